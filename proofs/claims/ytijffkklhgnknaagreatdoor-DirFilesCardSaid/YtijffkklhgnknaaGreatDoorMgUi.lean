/- The function that the law DirFiles runs. Conditions: those named. -/
import Derived.Test.YtijffkklhgnknaaGreatDoorAz
import Derived.Test.YtijffkklhgnknaaGreatDoorMgRj
import Derived.Test.YtijffkklhgnknaaGreatDoorMgDf
import Derived.Test.YtijffkklhgnknaaGreatDoorMgRa
set_option maxHeartbeats 20000000
set_option linter.unusedVariables false
set_option maxRecDepth 20000
namespace Go.Proofs.YtijffkklhgnknaaGreatDoor
open Go.RowKit
section
variable {b:Nat} {w w':World} {gv gm gs r pv pl pr pb:Nat} {Bs:List BV} {n:Nat}
theorem files1 {A : Option Addr} {c:Nat} {LL:List EL} {AB:Option Addr} {LB cB:Nat} {lb:L8} (h:VV b w gv gm gs (some ⟨r,0,none⟩) 0 fun _=>none) (hb:b≤w.heap.size) (hrb:b≤r) (hr:Row w r 70 (rcs false 0)) (hp:Row w pv 27 [.pointer (some ⟨gv,0,none⟩)]) (hpl:Row w pl 22 [.slice A n c]) (hpr:Row w pr 4 [.bool true]) (hpb:Row w pb 23 [.slice AB LB cB]) (hs:Src b w gs Bs) (hB:Bs.length=64∧∀ x ∈ Bs,x.l=List.replicate 256 0) (hbp:b≤pr) (hlb:lb.length=LB∧LB≤cB∧LB≤1000) (hnb:n≤9223372036854775807) (hEnv:∀ W,Below b w W→Tabs W∧InLs W A n LL∧Hol W AB lb):
    Calls Tryz.prog 9 #[.pointer (some ⟨pv,0,none⟩),.pointer (some ⟨pl,0,none⟩),.pointer (some ⟨pr,0,none⟩),.pointer (some ⟨pb,0,none⟩)] w (FunP b gv gm gs r [gm,pr] (fun _ C' w2=>w2.cell? ⟨pr,0,none⟩=some (.bool true)) (fun _ _=>False) w):=by
  have HNEW:=Za (p:=∀ w,Calls Tryz.prog 10 #[.pointer (some ⟨gv,0,none⟩),.int .i64 64] w fun e w'=>∃ gd,e=.returned (.pointer (some ⟨gd,0,none⟩))∧Hid (Row w' gd 80 (dcs gv 64 (bkcs false sup0 sup0) (bkcs false sup0 sup0) false (-1)))∧Hid (w.heap.size≤gd)∧Hid (Below w.heap.size w w')) (fun w=>dnew gv 64 w);have H:=Za h;have HR:=Za hr;have HPR:=Za hpr;have HS:=Za hs;have HB:=Za hB;have HLO:=Za (p:=b≤w.heap.size∧b≤r∧b≤pr∧b≤gm) ⟨hb,hrb,hbp,h.lo.2⟩;have i2:=Za (fun v=>info_ncs v);have i3:=Za (fun k s=>info_ref k s);have hzr:=Za zero_ref;have hzi:=Za zero_ino;have HLT:=Za (p:=gm<w.heap.size∧pr<w.heap.size∧pr≠gm) ⟨h.map.lt,hpr.lt,fun e=>h.map.no_cells _ _ _ (e ▸ hpr.heap)⟩;have c0:w.cell? ⟨pv,0,none⟩=some (.pointer (some ⟨gv,0,none⟩)):=(hp.cell 0).trans rfl;have HPL:=Za hpl;have HPB:=Za hpb;have HLB:=Za hlb;have HNB:=Za hnb;have HENV:=Za hEnv;have HNE:=Za (p:=(pl≠gm∧pl≠pr)∧(pb≠gm∧pb≠pr)) ⟨⟨fun e=>h.map.no_cells _ _ _ (e ▸ hpl.heap),hpl.ne_ hpr (by decide)⟩,⟨fun e=>h.map.no_cells _ _ _ (e ▸ hpb.heap),hpb.ne_ hpr (by decide)⟩⟩;clear h hr hp hpr hs hB hb hrb hbp hpl hpb hlb hnb hEnv;go_enter Tryz.func9,Tryz.ntmps9
  go_wp2_with (first
    | (go_at_call 10;refine (HNEW.out _).mono ?_;rintro e w2 ⟨gd,rfl,hd,hg,hb⟩;have HG:=Za (p:=w.heap.size≤gd) hg.out
       have HK2:=Za (DK.start H.out HR.out HS.out ⟨HLO.out.2.1,HLO.out.1⟩ hd.out hg.out hb.out);have HC2:=Za (p:=Chg [gm] w w2) (Chg.of hb.out);have HPR2:=Za (HPR.out.kept hb.out);have HSZ:=Za (src_zero (Bs:=Bs) HS.out HB.out (byL fun _=>none) 0 (by decide) rfl);obtain ⟨X0,hX0⟩:∃ X0:DX,(⟨false,sup0,sup0,byL fun _=>none⟩:DX)=X0:=⟨_,rfl⟩;have HX0:=Za (p:=X0.rd=false∧X0.C=fun _=>none) (by rw [← hX0];exact ⟨rfl,rfl⟩);rw [hX0] at HK2 HSZ;have HN:=Za (p:=∀ x:Nat,(x=gd∨x=gm)→x=gm∨w.heap.size≤x) (fun x hx=>by rcases hx with rfl | rfl;exact .inr HG.out;exact .inl rfl);clear hd hg hb c0 hX0)
    | (refine step_build rfl 43 _ rfl [(0,.int .i64 2),(4,.int .i64 1)] ?hv _ built_file2 ?_;case hv=>(simp [Act.eval,Act.put]))
    | (go_at_call 11;refine (fmake2 HK2.out HX0.out.1 _ HSZ.out rfl (by omega) (by decide)).mono ?_;rintro e w3 ⟨rfl,hk,hc⟩;have HK3:=hk
       have HC3:=Za (p:=Chg [gm] w w3) (HC2.out.trans hc.out (fun x hx=>by simp at hx ⊢;exact HN.out x hx));have HPR3:=Za (hc.out.row HPR2.out (by have h1:=HLT.out;have h2:=HG.out;simp;omega));clear hk hc)
    | (refine step_alloc rfl 5 rfl 36 rfl _ hzr.out ?_;intro g3 w4 hr2 hg2 hb2 hs2;have HR34:=Za hr2
       have HK4:=Za (HK3.out.below hb2);have HC4:=Za (chg_nxt HC3.out hb2);have HPR4:=Za (HPR3.out.kept hb2);have HG3:=Za (p:=w.heap.size≤g3∧gd<g3∧pr<g3) (by rw [hg2.out];exact ⟨HC3.out.size,HK3.out.lt,HPR3.out.lt⟩);clear hr2 hg2 hb2 hs2)
    | (refine step_store rfl 36 (.tmp 5) (.tmp 27) rfl g3 rfl _ _ (rfc 1 1) rfl HR34.out rfl (i3.out _ _) (rfc_one _ _) ?_;intro w5 hr9 hg9 hs9;have HR35:=Za hr9
       have HK5:=Za (HK4.out.other HR34.out (by decide) (by have:=HLO.out;have:=HG3.out;omega) (Chg.one hg9));have HC5:=Za (p:=Chg [gm] w w5) (chg_own HC4.out HG3.out.1 (Chg.one hg9));have HPR5:=Za (HPR4.out.grown hg9 (fun e=>by have:=HG3.out;injection e;omega));clear hr9 hg9 hs9)
    | (refine step_load rfl 31 rfl 36 (.tmp 5) rfl g3 rfl (rfc 1 1) _ HR35.out.all Tryz.underlying36 rfl (i3.out _ _) ?_)
    | (go_at_call 12;refine (fget2 HK5.out (by omega)).mono ?_;rintro e w6 ⟨rfl,hk,hc⟩;have HK6:=hk
       have HC6:=Za (p:=Chg [gm] w w6) (HC5.out.trans hc.out (fun x hx=>by simp at hx ⊢;exact HN.out x (.inl hx)));have HPR6:=Za (hc.out.row HPR5.out (by have h1:=HLT.out;have h2:=HG.out;simp;omega));clear hk hc)
    | (refine step_alloc rfl 7 rfl 43 rfl _ hzi.out ?_;intro gn w7 hr2 hg2 hb2 hs2;have HR57:=Za hr2
       have HK7:=Za (HK6.out.below hb2);have HC7:=Za (chg_nxt HC6.out hb2);have HPR7:=Za (HPR6.out.kept hb2);have HG5:=Za (p:=w.heap.size≤gn∧gd<gn∧pr<gn) (by rw [hg2.out];exact ⟨HC6.out.size,HK6.out.lt,HPR6.out.lt⟩);clear hr2 hg2 hb2 hs2)
    | (refine step_store rfl 43 (.tmp 7) (.tmp 33) rfl gn rfl _ _ (ncs (vA2 1)) rfl HR57.out rfl (i2.out _) (ncs_one _) ?_;intro w8 hr9 hg9 hs9;have F8:=Za (p:=FS b w w8 gd gv gm gs r pr gn Bs 1 (XA2 X0) (vA2 1) (.bool true)) ⟨HK7.out.other HR57.out (by decide) (by have:=HLO.out;have:=HG5.out;omega) (Chg.one hg9),(chg_own HC7.out HG5.out.1 (Chg.one hg9)).wider (fun y hy=>.inl (by simp at hy ⊢;exact .inl hy)),hr9,HPR7.out.grown hg9 (fun e=>by have:=HG5.out;injection e;omega),HG.out,HG5.out.2.1,HLT.out.1,HLT.out.2.1,HLT.out.2.2,HLO.out.1,HLO.out.2.2.1,HLO.out.2.2.2⟩
       clear hr9 hg9 hs9))
  have HDF0:=Za (p:=DF Bs (XA2 X0) (vA2 1) (rowD (vA2 1)) 0 (fun _=>0)) ⟨fo_empty2 Bs (XA2 X0) 1,fun j hj=>by rw [rowD_zero2,if_neg (Nat.not_lt_zero _)],by rw [vA_ne2 1 (by decide)];rfl,by rw [vA_ne2 1 (by decide)];rfl,rfl,rfl,by decide⟩;have HCL:=Za (p:=∀ W,Below b w W→W.cell? ⟨pl,0,none⟩=W.cell? ⟨pl,0,none⟩) (fun W _=>rfl);clear HCL;go_loopw [9,10] (fun nw iw wr=>∃ (j qn kn cn:Nat) (An:Option Addr) (Xn:List Ent) (v R:Nat→Int) (X:DX) (F:Nat→UInt8),iw=.int .i64 (j:Int)∧nw=.slice An qn cn∧Hid (Xn.length=qn∧(leaves Xn).length=kn)∧Hid (j≤8∧j≤n)∧Hid (FS b w wr gd gv gm gs r pr gn Bs (1+261*j) X v (.bool true))∧Hid (DF Bs X v R kn F)∧Hid (lst (kn*256) F=(leaves Xn).flatten)∧Hid (MayL Xn∧Wide Xn∧qn≤cn)∧Hid (∀ W,Below b w W→Lies ecs 5 W An Xn)) (fun _ iw _=>8 - (intOf iw).toNat)
  case atStart=>exact ⟨0,0,0,0,none,[],vA2 1,rowD (vA2 1),XA2 X0,_,rfl,rfl,Za ⟨rfl,rfl⟩,Za ⟨by decide,Nat.zero_le _⟩,F8,HDF0,Za rfl,Za ⟨may_none,(fun e he=>by cases he),Zj _⟩,Za (fun W _=>.inl rfl)⟩
  case round =>
    obtain ⟨j,qn,kn,cn,An,Xn,v,R,X,F,rfl,rfl,HQN,HJ,HF,HD,HFL,HMN,HLN⟩:=hrel
    rename World=>wr;by_cases hj:j<n∧j<8
    · have hj1 : (j :Int)<(n:Int):=by omega
      have hj2:(j:Int)<8:=by omega
      have hjw:IntKind.i64.wrap ((j:Int)+1)=(j:Int)+1:=by rw [Zg];omega
      have hIL:=(HENV.out wr HF.out.env).2.1;obtain ⟨y,hy⟩:∃ y,LL[j]?=some y:=⟨_,Zh (by rw [hIL.len_];exact hj.1)⟩;obtain ⟨gA,oA,rfl, -, -⟩:=hIL.at_ j y hy;obtain ⟨yA,yc,yX⟩:=y;obtain ⟨q,hq⟩:∃ q,yX.length=q:=⟨_,rfl⟩;obtain ⟨k3,hk3⟩:∃ k3,(leaves yX).length=k3:=⟨_,rfl⟩
      have HC:=Za (p:=∀ W,Below b w W→W.cell? ⟨gA,oA+j,none⟩=some (.slice yA q yc)∧Lies ecs 5 W yA yX∧q≤yc∧Wide yX∧Tabs W∧q≤9223372036854775807∧∀ e ∈ yX,e.nm.size≤140737488355328) (fun W hW=>by
        have h1:=HENV.out W hW;obtain ⟨g,o,e1,e2,e3⟩:=h1.2.1.at_ j _ hy;injection e1 with e1
        injection e1 with e1 e4
        subst e1 e4;unfold elv at e2;have e5:=e3.cap_;have e6:=e3.max_;rw [show (EL.mk yA yc yX).X.length=q from hq] at e2 e5 e6;exact ⟨e2,e3.lies,e5,e3.wide,h1.1,e6,e3.nm⟩)
      have HSF:=Za (p:=∀ W n1 X v,FS b w W gd gv gm gs r pr gn Bs n1 X v (.bool true)→W.cell? ⟨pl,0,none⟩=some (.slice (some ⟨gA,oA,none⟩) n c)∧W.cell? ⟨gA,oA+j,none⟩=some (.slice yA q yc)) (fun W n1 X v hF=>⟨((hF.base HPL.out HNE.out.1).cell 0).trans rfl,(HC.out W hF.env).1⟩);have HQ:=Za (And.intro hq hk3);have HJ2:=Za hj;have HGD:=Za (p:=∀ G:List Nat,(∀ y ∈ G,y=gd∨y=gm)→G=G) (fun G _=>rfl);obtain ⟨cpl,cel⟩:=HSF.out _ _ _ _ HF.out;clear hIL hy hq hk3 hj HGD
      go_wp2_with (go_at_call 13;refine (small_any yA q yc yX (HC.out _ HF.out.env).2.2.2.2.2.1 wr (HC.out _ HF.out.env).2.1 HQ.out.1 (HC.out _ HF.out.env).2.2.2.2.2.2).mono ?_;rintro e w1 ⟨⟨z,rfl,hz⟩,hb⟩;have HZ:=Za hz
                   have F1:=Za (HF.out.bel hb);clear hz hb cpl cel;cases z)
      · first | go_end0 | refine Yd (results_none rfl _ _ _) rfl ?_
        obtain ⟨C,hv,hC⟩:=F1.out.dk.view;exact .inl ⟨rfl,_,C,hv,by have:=HJ.out;omega,F1.out.dk.run,F1.out.chg,(F1.out.prr.cell 0).trans rfl⟩
      have HZZ:=Za (HZ.out (by trivial));have FD:=Za (F1.out.bel (below_drw w1));clear HZ;by_cases hmay:MayL yX
      · have HMAY:=Za hmay;clear hmay;refine Zq (S:=fun W=>W.cell? ⟨pl,0,none⟩=some (.slice (some ⟨gA,oA,none⟩) n c)∧W.cell? ⟨gA,oA+j,none⟩=some (.slice yA q yc)) (by kernel_rfl) (HSF.out _ _ _ _ FD.out) (fun hHeld=>?_);refine Ze (i:=0) (oi:=⟨some 51,.move (.tmp 4),_,_,_,_⟩) (v:=.pointer (some ⟨gd,0,none⟩)) rfl (by kernel_rfl) (by kernel_rfl) (by kernel_rfl) (fun _ _ _ h=>h) (.inl ⟨by rfl,fun w hSw=>by go_simp⟩) (by assumption) ?_;simp only [Act.put,Zb,Zc,Zd];refine Ze (i:=2) (oi:=⟨some 53,.load 22 (.tmp 1),_,_,_,_⟩) (v:=.slice (some ⟨gA,oA,none⟩) n c) rfl (by kernel_rfl) (by kernel_rfl) (by kernel_rfl) (fun _ _ _ h=>h) (.inl ⟨by rfl,fun w hSw=>by have z:=hSw.1;go_simp⟩) (by assumption) ?_;simp only [Act.put,Zb,Zc,Zd];refine Ze (i:=3) (oi:=⟨some 54,.move (.tmp 10),_,_,_,_⟩) (v:=.int .i64 (j:Int)) rfl (by kernel_rfl) (by kernel_rfl) (by kernel_rfl) (fun _ _ _ h=>h) (.inl ⟨by rfl,fun w hSw=>by go_simp⟩) (by assumption) ?_;simp only [Act.put,Zb,Zc,Zd];refine Ze (i:=4) (oi:=⟨some 55,.indexAddr 22 (.tmp 53) (.tmp 54),_,_,_,_⟩) (v:=.pointer (some ⟨gA,oA+j,none⟩)) rfl (by kernel_rfl) (by kernel_rfl) (by kernel_rfl) (fun _ _ _ h=>h) (.inl ⟨by rfl,fun w hSw=>by go_simp⟩) (by assumption) ?_;simp only [Act.put,Zb,Zc,Zd];refine Ze (i:=5) (oi:=⟨some 56,.load 46 (.tmp 55),_,_,_,_⟩) (v:=.slice yA q yc) rfl (by kernel_rfl) (by kernel_rfl) (by kernel_rfl) (fun _ _ _ h=>h) (.inl ⟨by rfl,fun w hSw=>by have z:=hSw.2;go_simp⟩) (by assumption) ?_;simp only [Act.put,Zb,Zc,Zd];refine Zp (rs:=[1]) (by kernel_rfl) (by simp) ?_;refine Zl (o:=⟨some 52,.load 43 (.tmp 7),_,_,_,_⟩) rfl (fun K hK=>?_) Zo;refine st_load_rng (by rfl) 43 (.tmp 7) rfl gn 0 rfl (ncs v) _ FD.out.row.all Yh rfl (i2.out v) ?_;refine hK.out _ _ (HSF.out _ _ _ _ FD.out) (fun _hs=>?_);clear hK K;refine Zp (rs:=[6]) (by kernel_rfl) (by simp) ?_;refine Zl (o:=⟨some 57,.call ⟨.value (.func 14),#[.tmp 51,.tmp 52,.tmp 56],_⟩,_,_,_,_⟩) rfl (fun K hK=>?_) Zo;go_simp;go_at_call 14;refine (dirput_yes HD.out yX yA q yc HQ.out.1 (by have:=HZZ.out.1;omega) (HC.out _ FD.out.env).2.2.1 (HC.out _ FD.out.env).2.1 (fun e he=>by have:=HZZ.out.2 e he;omega) (HC.out _ FD.out.env).2.2.2.1 FD.out.dk (fun W hW=>(HC.out W (FD.out.env2 hW (fun y hy=>by simpa using hy))).2.2.2.2.1) HMAY.out (by have:=HJ2.out;omega) (by decide) (by decide)).mono ?_;rintro e w3 ⟨v3,R3,X3,F3,rfl,hd,hf,hk,hc⟩;have HD3:=Za hd.out;have HFL3:=Za hf.out;rw [HQ.out.2] at HD3 HFL3;have FA:=Za (FD.out.call hk.out hc.out (fun y hy=>by simpa using hy));clear hd hf hk hc;refine hK.out _ _ (HSF.out _ _ _ _ FA.out) (fun _hs=>?_);clear hK K;refine Zp (rs:=[7]) (by kernel_rfl) (by simp) ?_;refine Zl (o:=⟨none,.store 43 (.tmp 7) (.tmp 57),_,_,_,_⟩) rfl (fun K hK=>?_) Zo;refine st_store (by rfl) 43 (.tmp 7) (.tmp 57) rfl gn rfl 43 (ncs v) (ncs v3) rfl FA.out.row rfl (i2.out v3) (ncs_one v3) ?_;intro w4 hr9 hg9;have FB:=Za (FA.out.set hr9 hg9);clear hr9 hg9;refine hK.out _ _ (HSF.out _ _ _ _ FB.out) (fun _hs=>?_);clear hK K;refine Yg (by kernel_rfl) ?_ _;obtain ⟨cpl,cel⟩:=HSF.out _ _ _ _ FB.out;obtain ⟨K,hK⟩:∃ K,k3*256=K:=⟨_,rfl⟩;have hmul:IntKind.i64.wrap (256*(k3:Int))=(K:Int):=by rw [Zg];have:=HD3.out.lim;omega
        have HKK:=Za (p:=v3 5=(K:Int)) (by rw [HD3.out.size,hK]);clear hK
        go_wp2_with (first
          | (go_at_call 15;refine (rmay_anyD yA q yc yX (by have:=HZZ.out.1;omega) _ (HC.out _ FB.out.env).2.1 HQ.out.1 (fun e he=>by have:=HZZ.out.2 e he;omega)).mono ?_;rintro e w5 ⟨⟨z,rfl,hz⟩,hb⟩;obtain rfl:z=true:=hz.2 HMAY.out
             have F5:=Za (FB.out.bel hb);clear hz hb cpl cel;obtain ⟨cpl,cel⟩:=HSF.out _ _ _ _ F5.out)
          | (refine wpList_load_mid rfl 43 (.tmp 7) rfl gn 0 rfl (ncs v3) _ F5.out.row.all Yh rfl (i2.out v3) ?_)
          | (go_at_call 16;refine (HD3.out.list yX q HQ.out.1 HQ.out.2 HFL3.out HMAY.out (HC.out _ F5.out.env).2.2.2.1 F5.out.dk (by have:=HJ2.out;omega) (fun W hW=>(HC.out W (F5.out.env2 hW (fun y hy=>by simp at hy;exact .inl hy))).2.2.2.2.1)).mono ?_;rintro e w6 ⟨A6,c6,rfl,ho,hk,hc⟩;have HO6:=Za ho.out
             have F6:=Za (F5.out.call hk.out hc.out (fun y hy=>by simp at hy;exact .inl hy));clear ho hk hc cpl cel)
          | (go_at_call 17;refine (rleaves_q yA q yc yX HQ.out.1 (HC.out _ F6.out.env).2.2.1 k3 HQ.out.2 HMAY.out (HC.out _ F6.out.env).2.2.2.1 (HC.out _ F6.out.env).2.1).mono ?_;rintro e w7 ⟨A7,c7,rfl,hb⟩;have HO7:=Za (own_kept HO6.out hb.out)
             have F7:=Za (F6.out.bel hb.out);have cp7:w7.cell? ⟨pr,0,none⟩=some (.bool true):=(F7.out.prr.cell 0).trans rfl;clear hb)
          | (go_at_call 18;refine (lists_same A6 yA q c6 yc yX (by have h5:=HMAY.out.1;have h6:=HQ.out.1;omega) HQ.out.1 w7 (Lies.own (by decide) ecs_len HO7.out) (HC.out _ F7.out.env).2.1).mono ?_;rintro e w8 ⟨rfl,hb⟩;have F8b:=Za (F7.out.bel hb)
             clear hb cp7)
          | (refine step_load_gm (by rfl) 43 (.tmp 7) rfl gn 0 rfl (ncs v3) _ F8b.out.row.all Yh rfl (i2.out v3) ?_)
          | (go_at_call 19;refine (HD3.out.fo.takes F8b.out.dk (by have:=HJ2.out;omega)).mono ?_;rintro e w9 ⟨rfl,hk,hc⟩;rw [HD3.out.tks]
             have F9:=Za (F8b.out.call hk.out hc.out (fun y hy=>by simp at hy;exact .inl hy));have c5:w9.cell? ⟨gn,5,none⟩=some (.int .i64 (K:Int)):=by rw [← HKK.out];exact (F9.out.row.cell 5).trans rfl
             have cp9:w9.cell? ⟨pr,0,none⟩=some (.bool true):=(F9.out.prr.cell 0).trans rfl;have fp9:=F9.out.prr.free 0;clear hk hc))
        go_roundw
        case rel=>exact ⟨j+1,q,k3,yc,yA,yX,v3,R3,X3,F3,by go_num,rfl,HQ,Za (by have:=HJ2.out;omega),Za ((F9.out.put (.bool true)).more (by omega)),HD3,HFL3,Za ⟨HMAY.out,(HC.out _ F9.out.env).2.2.2.1,(HC.out _ F9.out.env).2.2.1⟩,Za (fun W hW=>(HC.out W hW).2.1)⟩
        case measure=>have:=HJ2.out;simp [intOf];omega
      · have HMAY:=Za hmay;clear hmay;refine Zq (S:=fun W=>W.cell? ⟨pl,0,none⟩=some (.slice (some ⟨gA,oA,none⟩) n c)∧W.cell? ⟨gA,oA+j,none⟩=some (.slice yA q yc)) (by kernel_rfl) (HSF.out _ _ _ _ FD.out) (fun hHeld=>?_);refine Ze (i:=0) (oi:=⟨some 51,.move (.tmp 4),_,_,_,_⟩) (v:=.pointer (some ⟨gd,0,none⟩)) rfl (by kernel_rfl) (by kernel_rfl) (by kernel_rfl) (fun _ _ _ h=>h) (.inl ⟨by rfl,fun w hSw=>by go_simp⟩) (by assumption) ?_;simp only [Act.put,Zb,Zc,Zd];refine Ze (i:=2) (oi:=⟨some 53,.load 22 (.tmp 1),_,_,_,_⟩) (v:=.slice (some ⟨gA,oA,none⟩) n c) rfl (by kernel_rfl) (by kernel_rfl) (by kernel_rfl) (fun _ _ _ h=>h) (.inl ⟨by rfl,fun w hSw=>by have z:=hSw.1;go_simp⟩) (by assumption) ?_;simp only [Act.put,Zb,Zc,Zd];refine Ze (i:=3) (oi:=⟨some 54,.move (.tmp 10),_,_,_,_⟩) (v:=.int .i64 (j:Int)) rfl (by kernel_rfl) (by kernel_rfl) (by kernel_rfl) (fun _ _ _ h=>h) (.inl ⟨by rfl,fun w hSw=>by go_simp⟩) (by assumption) ?_;simp only [Act.put,Zb,Zc,Zd];refine Ze (i:=4) (oi:=⟨some 55,.indexAddr 22 (.tmp 53) (.tmp 54),_,_,_,_⟩) (v:=.pointer (some ⟨gA,oA+j,none⟩)) rfl (by kernel_rfl) (by kernel_rfl) (by kernel_rfl) (fun _ _ _ h=>h) (.inl ⟨by rfl,fun w hSw=>by go_simp⟩) (by assumption) ?_;simp only [Act.put,Zb,Zc,Zd];refine Ze (i:=5) (oi:=⟨some 56,.load 46 (.tmp 55),_,_,_,_⟩) (v:=.slice yA q yc) rfl (by kernel_rfl) (by kernel_rfl) (by kernel_rfl) (fun _ _ _ h=>h) (.inl ⟨by rfl,fun w hSw=>by have z:=hSw.2;go_simp⟩) (by assumption) ?_;simp only [Act.put,Zb,Zc,Zd];refine Zp (rs:=[1]) (by kernel_rfl) (by simp) ?_;refine Zl (o:=⟨some 52,.load 43 (.tmp 7),_,_,_,_⟩) rfl (fun K hK=>?_) Zo;refine st_load_rng (by rfl) 43 (.tmp 7) rfl gn 0 rfl (ncs v) _ FD.out.row.all Yh rfl (i2.out v) ?_;refine hK.out _ _ (HSF.out _ _ _ _ FD.out) (fun _hs=>?_);clear hK K;refine Zp (rs:=[6]) (by kernel_rfl) (by simp) ?_;refine Zl (o:=⟨some 57,.call ⟨.value (.func 14),#[.tmp 51,.tmp 52,.tmp 56],_⟩,_,_,_,_⟩) rfl (fun K hK=>?_) Zo;go_simp;go_at_call 14;refine (dirput_no HD.out yX yA q yc HQ.out.1 (by have:=HZZ.out.1;omega) (HC.out _ FD.out.env).2.2.1 (HC.out _ FD.out.env).2.1 (fun e he=>by have:=HZZ.out.2 e he;omega) (HC.out _ FD.out.env).2.2.2.1 FD.out.dk (fun W hW=>(HC.out W (FD.out.env2 hW (fun y hy=>by simpa using hy))).2.2.2.2.1) HMAY.out).mono ?_;rintro e w3 ⟨rfl,hk,hc⟩;have FA:=Za (FD.out.call hk.out hc.out (fun y hy=>by simp at hy;exact .inl hy));clear hk hc;refine hK.out _ _ (HSF.out _ _ _ _ FA.out) (fun _hs=>?_);clear hK K;refine Zp (rs:=[7]) (by kernel_rfl) (by simp) ?_;refine Zl (o:=⟨none,.store 43 (.tmp 7) (.tmp 57),_,_,_,_⟩) rfl (fun K hK=>?_) Zo;refine st_store (by rfl) 43 (.tmp 7) (.tmp 57) rfl gn rfl 43 (ncs v) (ncs v) rfl FA.out.row rfl (i2.out v) (ncs_one v) ?_;intro w4 hr9 hg9;have FB:=Za (FA.out.set hr9 hg9);clear hr9 hg9;refine hK.out _ _ (HSF.out _ _ _ _ FB.out) (fun _hs=>?_);clear hK K;refine Yg (by kernel_rfl) ?_ _;obtain ⟨cpl,cel⟩:=HSF.out _ _ _ _ FB.out;obtain ⟨K,hK⟩:∃ K,kn*256=K:=⟨_,rfl⟩;have hmul:IntKind.i64.wrap (256*(kn:Int))=(K:Int):=by rw [Zg];have:=HD.out.lim;omega
        have HKK:=Za (p:=v 5=(K:Int)) (by rw [HD.out.size,hK]);clear hK
        go_wp2_with (first
          | (go_at_call 15;refine (rmay_anyD yA q yc yX (by have:=HZZ.out.1;omega) _ (HC.out _ FB.out.env).2.1 HQ.out.1 (fun e he=>by have:=HZZ.out.2 e he;omega)).mono ?_;rintro e w5 ⟨⟨z,rfl,hz⟩,hb⟩;obtain rfl:z=false:=Bool.eq_false_iff.2 (fun h=>HMAY.out (hz.1 h))
             have F5:=Za (FB.out.bel hb);clear hz hb cpl cel;obtain ⟨cpl,cel⟩:=HSF.out _ _ _ _ F5.out)
          | (refine wpList_load_mid rfl 43 (.tmp 7) rfl gn 0 rfl (ncs v) _ F5.out.row.all Yh rfl (i2.out v) ?_)
          | (go_at_call 16;refine (HD.out.list Xn qn HQN.out.1 HQN.out.2 HFL.out HMN.out.1 HMN.out.2.1 F5.out.dk (by have:=HJ2.out;omega) (fun W hW=>(HC.out W (F5.out.env2 hW (fun y hy=>by simp at hy;exact .inl hy))).2.2.2.2.1)).mono ?_;rintro e w6 ⟨A6,c6,rfl,ho,hk,hc⟩;have HO6:=Za ho.out
             have F6:=Za (F5.out.call hk.out hc.out (fun y hy=>by simp at hy;exact .inl hy));clear ho hk hc cpl cel)
          | (go_at_call 17;refine (rleaves_q An qn cn Xn HQN.out.1 HMN.out.2.2 kn HQN.out.2 HMN.out.1 HMN.out.2.1 (HLN.out _ F6.out.env)).mono ?_;rintro e w7 ⟨A7,c7,rfl,hb⟩;have HO7:=Za (own_kept HO6.out hb.out)
             have F7:=Za (F6.out.bel hb.out);have cp7:w7.cell? ⟨pr,0,none⟩=some (.bool true):=(F7.out.prr.cell 0).trans rfl;clear hb)
          | (go_at_call 18;refine (lists_same A6 An qn c6 cn Xn (by have h5:=HMN.out.1.1;have h6:=HQN.out.1;omega) HQN.out.1 w7 (Lies.own (by decide) ecs_len HO7.out) (HLN.out _ F7.out.env)).mono ?_;rintro e w8 ⟨rfl,hb⟩;have F8b:=Za (F7.out.bel hb)
             clear hb cp7)
          | (refine step_load_gm (by rfl) 43 (.tmp 7) rfl gn 0 rfl (ncs v) _ F8b.out.row.all Yh rfl (i2.out v) ?_)
          | (go_at_call 19;refine (HD.out.fo.takes F8b.out.dk (by have:=HJ2.out;omega)).mono ?_;rintro e w9 ⟨rfl,hk,hc⟩;rw [HD.out.tks]
             have F9:=Za (F8b.out.call hk.out hc.out (fun y hy=>by simp at hy;exact .inl hy));have c5:w9.cell? ⟨gn,5,none⟩=some (.int .i64 (K:Int)):=by rw [← HKK.out];exact (F9.out.row.cell 5).trans rfl
             have cp9:w9.cell? ⟨pr,0,none⟩=some (.bool true):=(F9.out.prr.cell 0).trans rfl;have fp9:=F9.out.prr.free 0;clear hk hc))
        go_roundw
        case rel=>exact ⟨j+1,qn,kn,cn,An,Xn,v,R,X,F,by go_num,rfl,HQN,Za (by have:=HJ2.out;omega),Za ((F9.out.put (.bool true)).more (by omega)),HD,HFL,HMN,HLN⟩
        case measure=>have:=HJ2.out;simp [intOf];omega
    · have HJ8 := Za (p:=j≤8) HJ.out.1;have cpl:wr.cell? ⟨pl,0,none⟩=some (.slice A n c):=((HF.out.base HPL.out HNE.out.1).cell 0).trans rfl;have HSB:=Za (p:=∀ W n1 X v,FS b w W gd gv gm gs r pr gn Bs n1 X v (.bool true)→W.cell? ⟨pb,0,none⟩=some (.slice AB LB cB)) (fun W n1 X v hF=>((hF.base HPB.out HNE.out.2).cell 0).trans rfl);have FD:=Za (HF.out.bel (below_drw wr))
      have hcs:(¬ (j:Int)<(n:Int))∨((j:Int)<(n:Int)∧¬ (j:Int)<8):=by
        by_cases h1:j<n
        · exact .inr ⟨by omega,by omega⟩
        · exact .inl (by omega)
      clear hj;rcases hcs with hj1 | ⟨hj1,hj2⟩
      all_goals
      go_wp2;clear cpl;refine Zq (S:=fun W=>W.cell? ⟨pb,0,none⟩=some (.slice AB LB cB)) (by kernel_rfl) (HSB.out _ _ _ _ FD.out) (fun hHeld=>?_);refine Ze (i:=0) (oi:=⟨some 104,.move (.tmp 4),_,_,_,_⟩) (v:=.pointer (some ⟨gd,0,none⟩)) rfl (by kernel_rfl) (by kernel_rfl) (by kernel_rfl) (fun _ _ _ h=>h) (.inl ⟨by rfl,fun w hSw=>by go_simp⟩) (by assumption) ?_;simp only [Act.put,Zb,Zc,Zd];refine Ze (i:=1) (oi:=⟨some 105,.move (.tmp 4),_,_,_,_⟩) (v:=.pointer (some ⟨gd,0,none⟩)) rfl (by kernel_rfl) (by kernel_rfl) (by kernel_rfl) (fun _ _ _ h=>h) (.inl ⟨by rfl,fun w hSw=>by go_simp⟩) (by assumption) ?_;simp only [Act.put,Zb,Zc,Zd];refine Ze (i:=4) (oi:=⟨some 108,.load 23 (.tmp 3),_,_,_,_⟩) (v:=.slice AB LB cB) rfl (by kernel_rfl) (by kernel_rfl) (by kernel_rfl) (fun _ _ _ h=>h) (.inl ⟨by rfl,fun w hSw=>by have z:=hSw;go_simp⟩) (by assumption) ?_;simp only [Act.put,Zb,Zc,Zd];refine Zp (rs:=[2]) (by kernel_rfl) (by simp) ?_;refine Zl (o:=⟨some 106,.load 43 (.tmp 7),_,_,_,_⟩) rfl (fun K hK=>?_) Zo;refine st_load_rng (by rfl) 43 (.tmp 7) rfl gn 0 rfl (ncs v) _ FD.out.row.all Yh rfl (i2.out v) ?_;refine hK.out _ _ (HSB.out _ _ _ _ FD.out) (fun _hs=>?_);clear hK K;refine Zp (rs:=[3]) (by kernel_rfl) (by simp) ?_;refine Zl (o:=⟨some 107,.call ⟨.value (.func 21),#[.tmp 105,.tmp 106,.const (.int .i64 0)],_⟩,_,_,_,_⟩) rfl (fun K hK=>?_) Zo;go_simp;go_at_call 21;refine (HD.out.cut0 (by have:=HJ8.out;omega) FD.out.dk).mono ?_;rintro e w3 ⟨v3,R3,X3,F3,rfl,hd,hk,hc⟩;have HD3:=hd;have FA:=Za (FD.out.call hk.out hc.out (fun y hy=>by simpa using hy));clear hd hk hc;refine hK.out _ _ (HSB.out _ _ _ _ FA.out) (fun _hs=>?_);clear hK K;refine Zp (rs:=[5]) (by kernel_rfl) (by simp) ?_;refine Zl (o:=⟨some 109,.call ⟨.value (.func 20),#[.tmp 104,.tmp 107,.const (.int .i64 0),.tmp 108],_⟩,_,_,_,_⟩) rfl (fun K hK=>?_) Zo;go_simp;go_at_call 20;refine (HD3.out.bad AB cB LB lb HLB.out.1 HLB.out.2.1 HLB.out.2.2 (by have:=HJ8.out;omega) (by decide) (by decide) FA.out.dk (fun W hW=>(HENV.out W (FA.out.env2 hW (fun y hy=>by simpa using hy))).2.2)).mono ?_;rintro e w4 ⟨v4,R4,m4,X4,F4,rfl,hd,hf,hk,hc⟩;have HD4:=hd;have HF4:=hf;have FB:=Za (FA.out.call hk.out hc.out (fun y hy=>by simpa using hy));clear hd hf hk hc;refine hK.out _ _ (HSB.out _ _ _ _ FB.out) (fun _hs=>?_);clear hK K;refine Zp (rs:=[6]) (by kernel_rfl) (by simp) ?_;refine Zl (o:=⟨none,.store 43 (.tmp 7) (.tmp 109),_,_,_,_⟩) rfl (fun K hK=>?_) Zo;refine st_store (by rfl) 43 (.tmp 7) (.tmp 109) rfl gn rfl 43 (ncs v) (ncs v4) rfl FB.out.row rfl (i2.out v4) (ncs_one v4) ?_;intro w5 hr9 hg9;have FC:=Za (FB.out.set hr9 hg9);clear hr9 hg9;refine hK.out _ _ (HSB.out _ _ _ _ FC.out) (fun _hs=>?_);clear hK K;refine Yg (by kernel_rfl) ?_ _;have cpb:=HSB.out _ _ _ _ FC.out
      obtain ⟨gb,ob,hgb⟩:∃ gb ob,256≤LB→AB=some ⟨gb,ob,none⟩:=by
        by_cases h0:256≤LB
        · obtain ⟨g,o,e1,_⟩:=((HENV.out _ FC.out.env).2.2).some_ (by have:=HLB.out.1;omega);exact ⟨g,o,fun _=>e1⟩
        · exact ⟨0,0,fun h=>absurd h h0⟩
      have HGB:=Za hgb;clear hgb;go_wp2;go_loopw [15,16] (fun bw iw wz=>∃ (i k c':Nat) (A':Option Addr),iw=.int .i64 (i:Int)∧bw=.slice A' k c'∧Hid (k*256=i∧i≤LB)∧Hid (wz.ownsRow w5.heap.size 23 1 (.slice A' k c') k ((bdP gb ob cB lb k).flatMap sc))∧Hid (Below w5.heap.size w5 wz)) (fun _ iw _=>LB+256 - (intOf iw).toNat)
      case atStart=>exact ⟨0,0,0,none,rfl,rfl,Za ⟨rfl,Nat.zero_le _⟩,Za (Ye _ _ _ _),Za (Below.refl _ _)⟩
      case round =>
        obtain ⟨i,k,c',A',rfl,rfl,HIK,HOW,HBZ⟩:=hrel
        rename World=>wz;have FZ:=Za (FC.out.bel HBZ.out);have cpz:=HSB.out _ _ _ _ FZ.out;obtain ⟨i2',hi2⟩:∃ i2',i+256=i2':=⟨_,rfl⟩;have hiw:IntKind.i64.wrap ((i:Int)+256)=(i2':Int):=by rw [Zg];have h1:=HIK.out;have h2:=HLB.out;omega
        by_cases hi:i2'≤LB
        · have hii:(i2':Int)≤(LB:Int):=by omega
          obtain rfl:=HGB.out (by omega);have hs2:∀ W:World,(Instr.slice 23 (.slice (some ⟨gb,ob,none⟩) LB cB) (some (.int .i64 (i:Int))) (some (.int .i64 (i2':Int))) none).run Tryz.prog W=.ok (.slice (some ⟨gb,ob+i,none⟩) 256 (cB - i)) W:=bd_cut gb ob cB LB i i2' hi2 hi HLB.out.2.1;have HI2:=Za (p:=(k+1)*256=i2'∧i2'≤LB∧i<LB∧k≤4) (by have h1:=HIK.out;have h2:=HLB.out;omega);have hik:k*256=i:=HIK.out.1;have HSC:=Za (p:=(bdP gb ob cB lb (k+1)).flatMap sc=(bdP gb ob cB lb k).flatMap sc++[.slice (some ⟨gb,ob+i,none⟩) 256 (cB - i)]) (by rw [bdP_succ gb ob cB lb k (by have h1:=HI2.out;have h2:=HLB.out;omega),hik]);clear hi hi2 hik
          go_wp2_with (first
            | (refine step_bsv rfl 51 23 _ rfl Tryz.underlying51 info_sl _ zero_sl (.slice (some ⟨gb,ob+i,none⟩) 256 (cB - i)) rfl rfl ?_;intro g6 w6 hr3 hg3 hb3;have HR6:=Za hr3
               have HO6:=Za (own_kept HOW.out hb3);have HB6:=Za (below_nxt hb3 HBZ.out);clear hr3 hg3 hb3 cpz)
            | (at_builtin
               refine wp_join rfl _ _ rfl rec_sl w5.heap.size (.slice A' k c') k ((bdP gb ob cB lb k).flatMap sc) rfl HO6.out (some ⟨g6,0,none⟩) 1 1 [.slice (some ⟨gb,ob+i,none⟩) 256 (cB - i)] rfl rfl (.inr ⟨_,rfl,fun j u hu=>by rw [Addr.add_lit];exact HR6.out.all j u hu⟩) (by simp [Value.oneCell']) (by have:=HI2.out;omega) HB6.out.size ?_;intro v1 w7 ho1 hg1 hat1;have HO7:=Za ho1;obtain ⟨A9,c9,rfl⟩:=own_sl ho1;have HB7:=Za (HB6.out.grown hg1 HB6.out.size (fun k hk=>(HO6.out.lt k hk).1));clear ho1 hg1 hat1))
          go_roundw
          case rel=>exact ⟨i2',k+1,c9,A9,rfl,rfl,Za ⟨HI2.out.1,HI2.out.2.1⟩,Za (by rw [HSC.out];exact HO7.out),HB7⟩
          case measure=>have h1:=HI2.out;have h2:=HIK.out;simp [intOf];omega
        · have hii:¬ (i2':Int)≤(LB:Int):=by omega
          have HPH:=Za (p:=∀ W,Below b w W→∀ y ∈ bdP gb ob cB lb k,Hol W y.A y.l∧y.l.length≤2000∧y.l.length≤y.c) (fun W hW=>by
            have h1:=(HENV.out W hW).2.2;by_cases h0:k=0
            · subst h0;intro y hy;simp [bdP] at hy
            · have e:=HGB.out (by have h2:=HIK.out;omega);rw [e] at h1;exact bdP_hol h1 (by have h2:=HIK.out;have h3:=HLB.out;omega) (by have h3:=HLB.out;omega))
          obtain ⟨Lr,hLr⟩:∃ Lr,prL (cutB lb k)=Lr:=⟨_,rfl⟩;obtain ⟨er,her⟩:∃ er,prE (cutB lb k)=er:=⟨_,rfl⟩;obtain ⟨q5,hq5⟩:∃ q5,Lr.length=q5:=⟨_,rfl⟩;have HK4:=Za (p:=k≤4) (by have h2:=HIK.out;have h3:=HLB.out;omega)
          have hq5le:q5≤1000000:=by
            have h4:=prL_len (cutB lb k);have h5:(cutB lb k).length=k:=by simp [cutB]
            have h6:=HK4.out;rw [hLr,hq5,h5] at h4;omega
          have HQ5:=Za (p:=q5≤1000000∧Lr.length=q5) ⟨hq5le,hq5⟩
          have HRP:=Za (p:=∀ W,Below b w W→W.ownsRow w5.heap.size 23 1 (.slice A' k c') k ((bdP gb ob cB lb k).flatMap sc)→Calls Tryz.prog 22 #[.slice A' k c'] W fun e w'=>∃ A c,e=.returned (.tuple #[.slice A q5 c,.int .i64 er])∧w'.ownsRow W.heap.size 61 5 (.slice A q5 c) q5 (Lr.flatMap ecs)∧Below W.heap.size W w') (fun W hW ho=>by
            have h1:=rparse_any A' k c' (bdP gb ob cB lb k) (by have:=HK4.out;omega) (bdP_len _ _ _ _ _) W (Lies.own (by decide) sc_len ho) (HPH.out W hW);rw [bdP_l,hLr,her] at h1;unfold ParP at h1;rw [hq5] at h1;exact h1)
          by_cases h256:LB % 256=0
          · have ht:Int.tmod (LB:Int) 256=0:=by rw [Int.tmod_eq_emod_of_nonneg (by omega)];omega
            have HLI:=Za (p:=∀ W,DK b W gd gv gm gs r Bs 64 (1+261*j+131+130) X4→(∀ V,Chg [gd] W V→Tabs V)→Calls Tryz.prog 16 #[.pointer (some ⟨gd,0,none⟩),.agg (ncs v4).toArray] W fun e w'=>∃ A c,e=.returned (.tuple #[.slice A q5 c,.int .i64 er])∧Hid (w'.ownsRow W.heap.size 61 5 (.slice A q5 c) q5 (Lr.flatMap ecs))∧Hid (DK b w' gd gv gm gs r Bs 64 (1+261*j+131+130) X4)∧Hid (Chg [gd] W w')) (fun W hW hTT=>by
              have h1:=dlist HD4.out k LB (by have h2:=HIK.out;omega) (by have:=HK4.out;omega) HF4.out.1 hW (by have:=HJ8.out;omega) hTT;rw [HF4.out.2,hLr,her] at h1;unfold ListP at h1;rw [hq5] at h1;exact h1)
            clear hLr her hq5 hq5le h256 hi hi2
            go_wp2_with (first
              | (refine wpList_load_mid rfl 43 (.tmp 7) rfl gn 0 rfl (ncs v4) _ FZ.out.row.all Yh rfl (i2.out v4) ?_)
              | (go_at_call 16;refine (HLI.out _ FZ.out.dk (fun W hW=>(HENV.out W (FZ.out.env2 hW (fun y hy=>by simp at hy;exact .inl hy))).1)).mono ?_;rintro e w6 ⟨A6,c6,rfl,ho,hk,hc⟩;have HO6:=Za ho.out
                 have F6:=Za (FZ.out.call hk.out hc.out (fun y hy=>by simp at hy;exact .inl hy));have HOW6:=Za (hc.out.own HOW.out (fun q hq hx=>by have h1:=(HOW.out.lt q hq).1;have h2:=FC.out.lo;have h3:=FC.out.row.lt;simp at hx;omega));clear ho hk hc cpz)
              | (go_at_call 22;refine (HRP.out _ F6.out.env HOW6.out).mono ?_;rintro e w7 ⟨A7,c7,rfl,ho,hb⟩;have HO7:=Za ho
                 have HO67:=Za (own_kept HO6.out hb);have F7:=Za (F6.out.bel hb);have cp7:w7.cell? ⟨pr,0,none⟩=some (.bool true):=(F7.out.prr.cell 0).trans rfl;have cpb7:=HSB.out _ _ _ _ F7.out;clear ho hb)
              | (go_at_call 18;refine (lists_same A6 A7 q5 c6 c7 Lr HQ5.out.1 HQ5.out.2 w7 (Lies.own (by decide) ecs_len HO67.out) (Lies.own (by decide) ecs_len HO7.out)).mono ?_;rintro e w8 ⟨rfl,hb⟩;have F8c:=Za (F7.out.bel hb)
                 have cp8:w8.cell? ⟨pr,0,none⟩=some (.bool true):=(F8c.out.prr.cell 0).trans rfl;have fp8:=F8c.out.prr.free 0;clear hb cp7 cpb7))
            go_end0;have FE:=F8c.out.put (.bool true);obtain ⟨C,hv,hC⟩:=FE.dk.view;exact .inl ⟨rfl,_,C,hv,by have:=HJ8.out;omega,FE.dk.run,FE.chg,(FE.prr.cell 0).trans rfl⟩
          · obtain ⟨t,ht0⟩:∃ t:Nat,LB % 256=t:=⟨_,rfl⟩;have ht:Int.tmod (LB:Int) 256=(t:Int):=by rw [Int.tmod_eq_emod_of_nonneg (by omega)];omega
            have hne:((t:Int) !=0)=true:=by rw [bne_iff_ne];omega
            have HLI:=Za (p:=∀ W,Calls Tryz.prog 16 #[.pointer (some ⟨gd,0,none⟩),.agg (ncs v4).toArray] W fun e w'=>e=.returned (.tuple #[.slice none 0 0,.int .i64 5])∧Hid (Below W.heap.size W w')) (fun W=>dlist_bad LB h256 HF4.out.1 W);clear hLr her hq5 hq5le h256 hi hi2 ht0
            go_wp2_with (first
              | (refine wpList_load_mid rfl 43 (.tmp 7) rfl gn 0 rfl (ncs v4) _ FZ.out.row.all Yh rfl (i2.out v4) ?_)
              | (go_at_call 16;refine (HLI.out _).mono ?_;rintro e w6 ⟨rfl,hb⟩;have F6:=Za (FZ.out.bel hb.out)
                 have HOW6:=Za (own_kept HOW.out hb.out);clear hb cpz)
              | (go_at_call 22;refine (HRP.out _ F6.out.env HOW6.out).mono ?_;rintro e w7 ⟨A7,c7,rfl,_,hb⟩;have F7:=Za (F6.out.bel hb)
                 have cp7:w7.cell? ⟨pr,0,none⟩=some (.bool true):=(F7.out.prr.cell 0).trans rfl;have cpb7:=HSB.out _ _ _ _ F7.out;clear hb)
              | (go_at_call 18;refine (lists_same none none 0 0 0 [] (by decide) rfl w7 (.inl rfl) (.inl rfl)).mono ?_;rintro e w8 ⟨rfl,hb⟩;have F8c:=Za (F7.out.bel hb)
                 have cp8:w8.cell? ⟨pr,0,none⟩=some (.bool true):=(F8c.out.prr.cell 0).trans rfl;have fp8:=F8c.out.prr.free 0;clear hb cp7 cpb7))
            go_end0;have FE:=F8c.out.put (.bool true);obtain ⟨C,hv,hC⟩:=FE.dk.view;exact .inl ⟨rfl,_,C,hv,by have:=HJ8.out;omega,FE.dk.run,FE.chg,(FE.prr.cell 0).trans rfl⟩
end
/- The laws' first test,whole. No conditions. -/
section
variable {b:Nat} {w w':World} {gv gm gs r pv pr:Nat} {Bs:List BV} {n:Nat}
end
/- The laws' first test,whole. No conditions. -/
section
variable {b:Nat} {w w':World} {gv gm gs:Nat} {n:Nat} {C:Int→Option BV}
def DoneP (b:Nat) (w:World) (gv gm gs:Nat) (G:List Nat) (Done:World→(Int→Option BV)→World→Prop) (e:Ending) (w':World):Prop:=
  e=.returned (.tuple #[.int .i64 0,.bool true])∧∃ (n':Nat) (C':Int→Option BV) (w1 w2:World) (F:List Nat),Hid (VV b w' gv gm gs none n' C')∧Hid (n'≤3000)∧Hid (Done w1 C' w2)∧Hid (Chg F w2 w')∧Hid (∀ x ∈ F,x=gv∨(w.heap.size≤x∧x<w1.heap.size))∧Hid (w.heap.size≤w1.heap.size)∧Hid (Chg (gv::gm::G) w w')
theorem RunP.done {G:List Nat} {Done:World→(Int→Option BV)→World→Prop} {Gave:Int→World→Prop} {e:Ending} (h:RunP b w gv gm gs G Done Gave e w') (hn:∀ a w,¬ Gave a w):DoneP b w gv gm gs G Done e w':=by
  rcases h with ⟨rfl,n',C',w1,w2,F,h1,h0,h2,h3,h4,h5,h6⟩ | ⟨a,w2,_,_,h,_⟩
  · exact ⟨rfl,n',C',w1,w2,F,Za h1,Za h0,Za h2,Za h3,Za h4,Za h5,Za h6⟩
  · exact absurd h (hn a w2)
end
theorem zero_vptr (w:World):(zeroValue 27).run Tryz.prog w=.ok (.pointer none) w:=by kernel_rfl
/- DirFiles,walked. Conditions:the library's tables lie there. -/
theorem ElOk.below {W W':World} {y:EL} (h:ElOk W y) (hb:Below W.heap.size W W'):ElOk W' y:=⟨h.lies.below hb,h.cap_,h.max_,h.nm,h.wide⟩
theorem InLs.below {W W':World} {A:Option Addr} {n:Nat} {LL:List EL} (h:InLs W A n LL) (hb:Below W.heap.size W W'):InLs W' A n LL:=⟨h.len_,fun j y hy=>by
  obtain ⟨g,o,e,hc,hk⟩:=h.at_ j y hy;exact ⟨g,o,e,(hb.cell (p:=⟨g,o+j,none⟩) (Ya W _ hc)).trans hc,hk.below hb⟩⟩
theorem filesW (A:Option Addr) (n c:Nat) (LL:List EL) (hnb:n≤9223372036854775807) (AB:Option Addr) (LB cB:Nat) (lb:L8) (hlen:lb.length=LB) (hlc:LB≤cB) (hmax:LB≤9223372036854775807) (w:World) (hT:Tabs w) (hI:InLs w A n LL) (hD:Hol w AB lb):Calls Tryz.prog 3 #[.slice A n c,.slice AB LB cB] w fun e w'=>e=.returned (.bool true)∧Below w.heap.size w w':=by
  have hmf:∀ (fn:Fn) (first cap:Array Value) (w:World),(Instr.makeFunc fn first cap).run Tryz.prog w=.ok (.func fn first cap) w:=fun _ _ _ _=>rfl;have HST:=Za (p:=∀ w,Calls Tryz.prog 5 #[.int .i64 64] w fun e w'=>∃ gs,e=.returned (.pointer (some ⟨gs,0,none⟩))∧∃ A c Bs,Hid (Vol w.heap.size w' gs A c Bs)∧Hid (Bs.length=64∧∀ x ∈ Bs,x.l=List.replicate 256 0)∧Hid (Below w.heap.size w w')) (fun w=>start_any 64 (by decide) w);have HD:=Za hD;have HT:=Za hT;have HI:=Za hI;have HLEN:=Za (p:=lb.length=LB∧LB≤cB) ⟨hlen,hlc⟩;have HNB:=Za hnb;clear hD hT hI hlen hlc hnb;by_cases hbig:1000<LB
  · have hbi:(1000:Int)<(LB:Int):=by omega
    clear hbig hmax;go_enter Tryz.func3,Tryz.ntmps3
    go_wp2_with (first
      | (refine step_box1 rfl 22 _ rfl (.slice A n c) rfl rfl ?_;intro pl w1 hr2 hg2 hb2;have RL1:=Za hr2
         have B1:=Za hb2;clear hr2 hg2 hb2)
      | (refine step_box1 rfl 23 _ rfl (.slice AB LB cB) rfl rfl ?_;intro pb w3 hr2 hg2 hb2;have RB3:=Za hr2
         have RL3:=Za (RL1.out.kept hb2);have B3:=Za (below_nxt hb2 B1.out);clear hr2 hg2 hb2)
      | (go_at_call 4;refine (awake_anyD _ (tabs_below HT.out B3.out)).mono ?_;rintro e w4 ⟨rfl,hb⟩;have RB4:=Za (RB3.out.kept hb)
         have RL4:=Za (RL3.out.kept hb);have B4:=Za (below_nxt hb B3.out);have cd:w4.cell? ⟨pb,0,none⟩=some (.slice AB LB cB):=(RB4.out.cell 0).trans rfl;clear hb))
    go_ret;exact ⟨rfl,B4.out⟩
  have hbi:¬ (1000:Int)<(LB:Int):=by omega
  have H3:=Za (p:=LB≤1000) (by omega);clear hbig hmax;go_enter Tryz.func3,Tryz.ntmps3
  go_wp2_with (first
    | (refine step_box1 rfl 22 _ rfl (.slice A n c) rfl rfl ?_;intro pl w1 hr2 hg2 hb2;have RL1:=Za hr2
       have B1:=Za hb2;clear hr2 hg2 hb2)
    | (refine step_box1 rfl 23 _ rfl (.slice AB LB cB) rfl rfl ?_;intro pb w3 hr2 hg2 hb2;have RB3:=Za hr2
       have RL3:=Za (RL1.out.kept hb2);have B3:=Za (below_nxt hb2 B1.out);clear hr2 hg2 hb2)
    | (go_at_call 4;refine (awake_anyD _ (tabs_below HT.out B3.out)).mono ?_;rintro e w4 ⟨rfl,hb⟩;have RB4:=Za (RB3.out.kept hb)
       have RL4:=Za (RL3.out.kept hb);have B4:=Za (below_nxt hb B3.out);have cd:w4.cell? ⟨pb,0,none⟩=some (.slice AB LB cB):=(RB4.out.cell 0).trans rfl;clear hb)
    | (go_at_call 5;refine (HST.out _).mono ?_;rintro e w5 ⟨gs,rfl,VA,vc,Bs,hv,hB,hb⟩;have HS1:=Za hv.out.src
       have HBZ:=hB;have RB5:=Za (RB4.out.kept hb.out);have RL5:=Za (RL4.out.kept hb.out);have B5:=Za (below_nxt hb.out B4.out);clear hv hB hb cd)
    | (go_at_call 6;refine (vnew gs _).mono ?_;rintro e w6 ⟨gv,gm,rfl,hv2,hb2⟩;have HB6:=Za hb2.out
       have HVV6:=Za hv2.out;clear hv2 hb2)
    | (refine step_new rfl 27 rfl (.pointer none) zero_vptr rfl ?_;intro pv w7 hr3 hg3 hb3;have R3:=Za hr3;have HB3:=Za hb3;have HG3:=hg3
       have c3:w7.cell? ⟨pv,0,none⟩=some (.pointer none):=(hr3.cell 0).trans rfl;have f3:=hr3.free 0;clear hr3 hb3 hg3)
    | (refine step_new rfl 4 rfl (.bool false) zero_bool rfl ?_;intro pr w8 hr4 hg4 hb4;have R4:=Za hr4;have HB4:=Za hb4;have HG4:=hg4
       have c4:w8.cell? ⟨pr,0,none⟩=some (.bool false):=(hr4.cell 0).trans rfl;have f4:=hr4.free 0;have npp:pv<pr:=by have h1:=R3.out.lt;have h2:=HG4.out;simp at h2;omega
       have cq:(w8.setCell ⟨pr,0,none⟩ (.bool true)).cell? ⟨pv,0,none⟩=some (.pointer (some ⟨gv,0,none⟩)):=((((R3.out.put 0 (.pointer (some ⟨gv,0,none⟩))).kept hb4).far (p:=⟨pr,0,none⟩) (by simp;omega) (.bool true)).cell 0).trans rfl;clear hr4 hb4 hg4))
  have HCF1:=Za (p:=∀ w,(callFunc 9 #[.pointer (some ⟨pv,0,none⟩),.pointer (some ⟨pl,0,none⟩),.pointer (some ⟨pr,0,none⟩),.pointer (some ⟨pb,0,none⟩)]).run Tryz.prog w=.ok (.enter 9 #[.pointer (some ⟨pv,0,none⟩),.pointer (some ⟨pl,0,none⟩),.pointer (some ⟨pr,0,none⟩),.pointer (some ⟨pb,0,none⟩)]) w) (fun w=>by simp [go_sem]);have lpv:w6.heap.size≤pv:=Nat.le_of_eq HG3.out.symm;have hc23:Chg [pv] w6 (w7.setCell ⟨pv,0,none⟩ (.pointer (some ⟨gv,0,none⟩))):=((Chg.of HB3.out).setCell (p:=⟨pv,0,none⟩) (.inl (by simp)) _);have hc24:Chg [pv,pr] w6 (w8.setCell ⟨pr,0,none⟩ (.bool true)):=((hc23.wider (fun x hx=>.inl (by simp at hx ⊢;exact .inl hx))).trans (Chg.of (F:=[]) HB4.out) (by simp)).setCell (p:=⟨pr,0,none⟩) (.inl (by simp)) _;have HVV:=Za (HVV6.out.below' hc24 (fun x hx=>by simp at hx;rcases hx with rfl | rfl <;> omega));have RV:=Za ((((R3.out.put 0 (.pointer (some ⟨gv,0,none⟩))).kept HB4.out).far (p:=⟨pr,0,none⟩) (by simp;omega) (.bool true)));have RR:=Za (R4.out.put 0 (.bool true));have hbb:Below w5.heap.size w5 (w8.setCell ⟨pr,0,none⟩ (.bool true)):=HB6.out.trans (hc24.below HB6.out.size (fun x hx=>by have:=HB6.out.size;simp at hx;rcases hx with rfl | rfl <;> omega));have HBB:=Za hbb;have RLW:=Za (RL5.out.kept hbb);have RBW:=Za (RB5.out.kept hbb);have npg:gv<pv∧gm<pv:=⟨by have:=HVV6.out.row.lt;omega,by have:=HVV6.out.map.lt;omega⟩;have lpw:pr<(w8.setCell ⟨pr,0,none⟩ (.bool true)).heap.size:=RR.out.lt;have lo5:pl<w5.heap.size∧pb<w5.heap.size∧w5.heap.size≤gv∧w5.heap.size≤gm:=⟨RL5.out.lt,RB5.out.lt,HVV6.out.lo.1,HVV6.out.lo.2⟩;clear c3 f3 c4 f4 hc23 hc24 hbb;generalize w8.setCell ⟨pr,0,none⟩ (.bool true)=W8 at HVV RV RR HBB RLW RBW lpw cq ⊢
  have hG8:∀ x ∈ [gm,pr],x≠gv∧x<W8.heap.size:=fun x hx=>by
    simp at hx;rcases hx with rfl | rfl
    · exact ⟨HVV.out.ne.symm,HVV.out.map.lt⟩
    · exact ⟨by omega,lpw⟩
  refine (vrun 9 #[.pointer (some ⟨pv,0,none⟩),.pointer (some ⟨pl,0,none⟩),.pointer (some ⟨pr,0,none⟩),.pointer (some ⟨pb,0,none⟩)] [gm,pr] _ _ HVV.out hG8 HCF1.out (fun r w1' hv hr hc hrb=>by
    have hbel:Below w5.heap.size w5 w1':=HBB.out.trans (hc.below HBB.out.size (fun x hx=>by
      simp at hx;rcases hx with rfl | rfl <;> omega))
    exact files1 (A:=A) (c:=c) (LL:=LL) (AB:=AB) (cB:=cB) (lb:=lb) hv hbel.size (by have:=HBB.out.size;omega) hr (hc.row RV.out (by simp;omega)) (hc.row RLW.out (by simp;omega)) (hc.row RR.out (by simp;omega)) (hc.row RBW.out (by simp;omega)) (HS1.out.keep hbel) HBZ.out (by have:=HB6.out.size;omega) ⟨HLEN.out.1,HLEN.out.2,H3.out⟩ HNB.out (fun W hW=>by
      have h1:Below w.heap.size w W:=below_nxt (hbel.trans hW) B5.out;exact ⟨tabs_below HT.out h1,HI.out.below h1,HD.out.below h1⟩))).mono ?_
  intro e w9 h9;obtain ⟨rfl,n',C',wa,wb,F,hv9,hn9,hd9,hcF,hF,hsz,hc9⟩:=h9.done (fun _ _ h=>h);have cr9:w9.cell? ⟨pr,0,none⟩=some (.bool true):=hcF.out.cell hd9.out (fun hx=>by rcases hF.out pr hx with h | h <;> omega)
  have HB9:=Za (p:=Below w5.heap.size w5 w9) (HBB.out.trans (hc9.out.below HBB.out.size (fun x hx=>by
    have h2:=HB6.out.size;simp at hx;rcases hx with rfl | rfl | rfl <;> omega)))
  go_wp2;go_ret;exact ⟨rfl,below_nxt HB9.out B5.out⟩
end Go.Proofs.YtijffkklhgnknaaGreatDoor
/- Lists of entries that came in. No conditions. -/
namespace Go.Proofs.YtijffkklhgnknaaGreatDoor
open Go.RowKit Go.ChangeShapes Go.WideShapes Go.ChangeAt
theorem reach_lt:reachBytes≤140737488355328:=by decide
section
variable {H:Type} {enc:TypeId × Value→H} {W:World} {sp:Nat→Bool} {held:Bool} {base:Nat}
theorem el_cs {fuel:Nat} {cs:List Value} {x:DataW H × List MemPlace} (hf:DataW.trod enc Tryz.prog W base sp held fuel 46 cs=some x) (hw:Sized 46 x.1):∃ y:EL,cs=[elv y]∧ElOk W y:=by
  obtain ⟨A',n',c',X,hc,hn,hl,hok,hr,hcap⟩:=list_cs ent0 Tryz.underlying46 (of_decide_eq_true (by kernel_rfl)) (by kernel_rfl) (by decide) ecs_len (fun fuel cs x hf hw=>ent_cs hf hw) hf hw;have hrl:=reach_lt;exact ⟨⟨A',c',X⟩,by rw [hc,hn];rfl,⟨hl,by rw [← hn];exact hcap,by show X.length≤_;omega,fun e he=>Nat.le_trans (hok e he).1 reach_lt,EntOk.wide hok⟩⟩
theorem lists_in {A:Option Addr} {n c:Nat} {d:DataW H} {p:List MemPlace} (h:DataW.Trod enc Tryz.prog W base sp held 22 (.slice A n c) d p) (hw:Sized 22 d):∃ LL,InLs W A n LL∧n≤reachBytes:=by
  obtain ⟨fuel,hf⟩:=h;obtain ⟨A',n',c',X,hc,hn,hl,hok,hr,hcap⟩:=list_cs (f:=fun y:EL=>[elv y]) (k:=1) (Q:=ElOk W) ⟨none,0,[]⟩ Tryz.underlying22 (of_decide_eq_true (by kernel_rfl)) (by kernel_rfl) (by decide) (fun _=>rfl) (fun fuel cs x hf hw=>el_cs hf hw) hf hw;simp [Value.cells] at hc;obtain ⟨rfl,rfl,rfl⟩:=hc;refine ⟨X,⟨hn.symm,fun j y hy=>?_⟩,hr⟩;obtain ⟨hj,rfl⟩:=Zn.1 hy;obtain ⟨g,o,rfl,hc⟩:=hl.at_ hj;refine ⟨g,o,rfl,?_,hok _ (List.getElem_mem hj)⟩;have h1:=hc 0 _ rfl;rw [Nat.mul_one,Nat.add_zero] at h1;exact h1
end
end Go.Proofs.YtijffkklhgnknaaGreatDoor
