/- Files: what a file takes; its bytes read. Conditions: the desk lies there; the row of slots is told; each block's content is known. -/
import Derived.Test.YtijffkklhgnknaaGreatDoorAz
import Derived.Test.YtijffkklhgnknaaGreatDoorMgEg
set_option maxHeartbeats 20000000
set_option linter.unusedVariables false
set_option maxRecDepth 20000
namespace Go.Proofs.YtijffkklhgnknaaGreatDoor
open Go.RowKit
theorem hol_sub2 {w:World} {g o:Nat} {l:List UInt8} (h:Hol w (some ⟨g,o,none⟩) l) (i n:Nat):Hol w (some ⟨g,o+i,none⟩) ((l.drop i).take n):=(hol_drop h i).take_ n
section
variable {b:Nat} {w w':World} {gd gv gm gs r:Nat} {Bs:List BV} {N n:Nat} {X X':DX}
def DeskRow (W:World) (gd gv N:Nat) (X:DX):Prop:=∃ ah la,ah.length=775∧(∀ v ∈ ah,v.oneCell'=true)∧Row W gd 80 (dcs gv N (bkcs X.rd X.S X.S0) ah false la)
theorem DK.again (h:DK b w gd gv gm gs r Bs N n X) (hc:Chg [gd] w w') (hd:DeskRow w' gd gv N X):DK b w' gd gv gm gs r Bs N n X:=by
  obtain ⟨ah,la,e1,e2,e3⟩:=hd;obtain ⟨n1,n2,n3,n4,n5,n6⟩:=h.ne;obtain ⟨_,_,_,_,h0⟩:=h.desk
  have hN:NoBytes w [gd]:=fun x hx cs fr=>by
    rw [Zr] at hx;subst hx;exact row_noB h0 (by decide) _ _
  obtain ⟨C,v1,v2⟩:=h.view;exact ⟨⟨ah,la,e1,e2,e3⟩,⟨C,v1.keepN hc (by simp;exact n1.symm) (by simp;exact n2.symm) hN,v2⟩,hc.row h.run (by simp;exact n3.symm),h.src.keep (hc.below h.lo.2.2 (fun x hx=>by rw [Zr] at hx;subst hx;exact h.lo.1)),h.lo.1,h.lo.2.1,Nat.le_trans h.lo.2.2 hc.size⟩
theorem dtakes (v R:Nat→Int) (h:DK b w gd gv gm gs r Bs N n X) (hn:n≤3000) (hrow:RowOk b gd gv gm gs r Bs N X v 128 R):Calls Tryz.prog 19 #[.pointer (some ⟨gd,0,none⟩),.agg (ncs v).toArray] w (DOne b w gd gv gm gs r Bs N n X (.int .i64 (tks R:Int))):=by
  have HBG:=Za (hbegin h hn);have i2:=Za (fun v=>info_ncs v);have HLT:=Za h.lt;have HROW:=Za (p:=∀ (w:World) (n:Nat),DK b w gd gv gm gs r Bs N n X→Calls Tryz.prog 43 #[.pointer (some ⟨gd,0,none⟩),.agg (ncs v).toArray,.int .i64 128] w (DOne b w gd gv gm gs r Bs N n X (.agg (inl 128 R).toArray))) hrow;have HT:=Za (takes_any R);clear h hn hrow;go_enter Tryz.func19,Tryz.ntmps19
  go_wp2_with (first
    | (refine step_box rfl 3 rfl 43 (.tmp 1) rfl (ncs v) rfl ?_;intro g3 w2 hr2 hg2 hb2 hs2;have HR32:=Za hr2
       have HB2:=Za hb2;have HG3:=Za (p:=w.heap.size≤g3) (Nat.le_of_eq hg2.out.symm);clear hr2 hg2 hb2 hs2)
    | (go_at_call 27;refine (HBG.out _ HB2.out).mono ?_;rintro e w4 ⟨rfl,hk,hc⟩;have HK4:=hk
       have HC4:=Za (p:=Chg [gd] w w4) ((Chg.of (F:=[gd]) HB2.out).trans hc.out (fun x hx=>.inl hx));have HR34:=Za (hc.out.row HR32.out (by have h1:=HLT.out;have h2:=HG3.out;simp;omega));clear hk hc)
    | (refine step_load rfl 8 rfl 43 (.tmp 3) rfl g3 rfl (ncs v) _ HR34.out.all Yh rfl (i2.out _) ?_)
    | (go_at_call 43;refine (HROW.out _ _ HK4.out).mono ?_;rintro e w6 ⟨rfl,hk,hc⟩;have HK6:=hk
       have HC6:=Za (p:=Chg [gd] w w6) (chg_same HC4.out hc.out);clear hk hc)
    | (go_at_call 44;refine (HT.out _).mono ?_;rintro e w7 ⟨rfl,hb⟩;have HB7:=Za hb
       clear hb))
  go_ret;exact ⟨rfl,Za (HK6.out.below HB7.out),Za (chg_nxt HC6.out HB7.out)⟩
def dl (off cn first k:Nat):Nat:=min (off+cn) ((first+k)*256) - off
theorem dread (v R:Nat→Int) (off count cn sz first cnt e:Nat) (F:Nat→UInt8) (h:DK b w gd gv gm gs r Bs N n X) (hn:n≤3000)
    (hsz:v 5=(sz:Int)) (hsz2:sz≤32768) (hcount:count≤32768) (hoff:off<sz) (hcn:cn=min count (sz - off)) (hcn1:1≤cn) (hF:first*256≤off∧off<first*256+256∧off+cn≤e*256∧e*256<off+cn+256) (hcnt:first+cnt=e)
    (hrow:RowOk b gd gv gm gs r Bs N X v e R) (hcont:∀ k,k<cnt→∃ zk:Nat,R (first+k)=(zk:Int)∧CW X Bs zk (fun j=>F ((first+k)*256+j))):
    Calls Tryz.prog 38 #[.pointer (some ⟨gd,0,none⟩),.agg (ncs v).toArray,.int .i64 (off:Int),.int .i64 (count:Int)] w (DSee b w gd gv gm gs r Bs N n X (lst cn fun i=>F (off+i))):=by
  obtain ⟨iU,U⟩:=u8_tab;have HBG:=Za (hbegin h hn);have HLT:=Za h.lt;have HLO:=Za h.lo;have i2:=Za (fun v=>info_ncs v);have i3:=Za info_rows;have i5:=Za info_brr;have hzr:=Za zero_row;have hzb:=Za zero_block;have he128:e≤128:=by omega
  have HSPAN:=Za (p:=∀ w,Calls Tryz.prog 46 #[.int .i64 (off:Int),.int .i64 (cn:Int)] w fun e' w'=>e'=.returned (.tuple #[.int .i64 (first:Int),.int .i64 (e:Int)])∧w=w') (fun w=>by
    have h1:=span_ok off cn hcn1 (by omega) w;rw [show off / 256=first by omega,show (off+cn - 1) / 256+1=e by omega] at h1;exact h1)
  have HROW:=Za hrow;have HV:=Za (p:=∀ W g,Row W g 43 (ncs v)→W.cell? ⟨g,5,none⟩=some (.int .i64 (sz:Int))) (fun W g h=>by rw [← hsz];exact (h.cell 5).trans rfl);have HCT:=Za hcont;have hsub:IntKind.i64.wrap ((e:Int) - (first:Int))=(cnt:Int):=by rw [Zg];omega
  have hm1:(if (32768:Int)<(sz:Int) then 32768 else (sz:Int))=(sz:Int):=by rw [if_neg (by omega)]
  have HM1:=Za hm1;obtain ⟨sd,hsd⟩:∃ sd,(sz:Int) - (off:Int)=sd:=⟨_,rfl⟩;have hsd2:IntKind.i64.wrap ((sz:Int) - (off:Int))=sd:=by rw [Zg];omega
  have HM2:=Za (p:=(if sd<(count:Int) then sd else (count:Int))=(cn:Int)) (by rw [← hsd];split <;> omega);have g1:¬ (off:Int)<0:=by omega
  have g2:¬ (sz:Int)≤(off:Int):=by omega
  have g3:¬ (count:Int)≤0:=by omega
  have HK:=Za (p:=first+cnt=e∧e≤128∧off≤32768∧cn≤32768∧1≤cn∧first*256≤off∧off<first*256+256∧off+cn≤e*256∧e*256<off+cn+256) ⟨hcnt,he128,by omega,by omega,hcn1,hF⟩;clear h hn hsz hsz2 hcount hoff hcn hcn1 hF hcnt hrow hcont he128 hm1 hsd;go_enter Tryz.func38,Tryz.ntmps38
  go_wp2_with (first
    | (refine step_box rfl 5 rfl 43 (.tmp 1) rfl (ncs v) rfl ?_;intro g5 w2 hr2 hg2 hb2 hs2;have HR52:=Za hr2
       have HB2:=Za hb2;have HG5:=Za (p:=w.heap.size≤g5) (Nat.le_of_eq hg2.out.symm);clear hr2 hg2 hb2 hs2)
    | (go_at_call 27;refine (HBG.out _ HB2.out).mono ?_;rintro e w4 ⟨rfl,hk,hc⟩;have HK4:=hk
       have HC4:=Za (p:=Chg [gd] w w4) ((Chg.of (F:=[gd]) HB2.out).trans hc.out (fun x hx=>.inl hx));have HR54:=Za (hc.out.row HR52.out (by have h1:=HLT.out;have h2:=HG5.out;simp;omega));have c5:=HV.out _ _ HR54.out;clear hk hc)
    | (refine wp_min rfl (.tmp 20) _ _ rfl _ _ _ rfl rfl HM1.out ?_)
    | (refine wp_min rfl (.tmp 33) _ _ rfl _ _ _ rfl rfl HM2.out ?_)
    | (go_at_call 46;refine (HSPAN.out _).mono ?_;rintro e w6 ⟨rfl,rfl⟩)
    | (refine step_load rfl 45 rfl 43 (.tmp 5) rfl g5 rfl (ncs v) _ HR54.out.all Yh rfl (i2.out _) ?_)
    | (go_at_call 43;refine (HROW.out _ _ HK4.out).mono ?_;rintro e w6 ⟨rfl,hk,hc⟩;have HK6:=hk
       have HC6:=Za (p:=Chg [gd] w w6) (chg_same HC4.out hc.out);clear hk hc c5)
    | (refine step_alloc rfl 12 rfl 99 rfl _ hzr.out ?_;intro g12 w7 hr8 hg8 hb8 hs8;have HR127:=Za hr8
       have HK7:=Za (HK6.out.below hb8);have HC7:=Za (chg_nxt HC6.out hb8);have HG12:=Za (p:=w.heap.size≤g12) (by rw [hg8.out];exact HC6.out.size);clear hr8 hg8 hb8 hs8)
    | (refine step_store rfl 99 (.tmp 12) (.tmp 47) rfl g12 rfl _ _ (inl 128 R) rfl HR127.out (by rw [inl_len,inl_len]) (i3.out _) (inl_one _ _) ?_;intro w8 hr9 hg9 hs9;have HR128:=Za hr9
       have HK8:=Za (HK7.out.other HR127.out (by decide) (by have:=HLO.out;have:=HG12.out;omega) (Chg.one hg9));have HC8:=Za (p:=Chg [gd] w w8) (chg_own HC7.out HG12.out (Chg.one hg9));clear hr9 hg9 hs9))
  have HGX:=Za (p:=gd<w.heap.size∧w.heap.size≤g12) ⟨HLT.out,HG12.out⟩;go_loopw [13,51] (fun x y wr=>∃ (k D:Nat) (A':Option Addr) (c':Nat),Hid (k≤cnt)∧y=.int .i64 (k:Int)∧x=.slice A' D c'∧Hid (D=dl off cn first k)∧Hid (wr.ownsRow w8.heap.size 5 1 (.slice A' D c') D (bc (lst D fun i=>F (off+i))))∧Hid (DeskRow wr gd gv N X)∧Hid (Row wr g12 99 (inl 128 R))∧Hid (Chg [gd] w8 wr)) (fun _ y _=>cnt - (intOf y).toNat)
  case atStart=>exact ⟨0,0,none,0,Za (Nat.zero_le _),rfl,rfl,Za (by unfold dl;have:=HK.out;omega),Za (Ye _ _ _ _),Za HK8.out.desk,HR128,Za (Chg.refl _ _)⟩
  case round =>
    obtain ⟨k,D,A',c',HKL,rfl,rfl,HDL,HO,HDR,HR12,HCW⟩:=hrel;by_cases hk:k<cnt
    · have hki :(k:Int)<(cnt:Int):=by omega
      have hkf:=HK.out;have HDK:=Za (HK8.out.again HCW.out HDR.out);obtain ⟨zk,hzk,hct⟩:=HCT.out k hk;obtain ⟨j,hj⟩:∃ j,first+k=j:=⟨_,rfl⟩
      rw [hj] at hzk hct;obtain ⟨fb,hfb⟩:∃ fb:Nat→UInt8,(fun i=>F (j*256+i))=fb:=⟨_,rfl⟩;rw [hfb] at hct;have HFB:=Za hfb;have hjw:IntKind.i64.wrap ((first:Int)+(k:Int))=(j:Int):=by rw [Zg];omega
      have hj128:(j:Int)<128:=by omega
      obtain ⟨jq,hjq⟩:∃ jq:Int,(j:Int)*256=jq:=⟨_,rfl⟩;have hjm:IntKind.i64.wrap ((j:Int)*256)=jq:=by rw [Zg, ← hjq];omega
      obtain ⟨lo,hlo⟩:∃ lo:Nat,(if (0:Int) > (off:Int) - jq then 0 else (off:Int) - jq)=(lo:Int):=⟨((off:Int) - jq).toNat,by split <;> omega⟩;obtain ⟨oc,hoc⟩:∃ oc,off+cn=oc:=⟨_,rfl⟩;have hocw:IntKind.i64.wrap ((off:Int)+(cn:Int))=(oc:Int):=by rw [Zg];omega
      obtain ⟨hi,hhi⟩:∃ hi:Nat,(if (256:Int)<(oc:Int) - jq then 256 else (oc:Int) - jq)=(hi:Int):=⟨(min 256 ((oc:Int) - jq)).toNat,by split <;> omega⟩;obtain ⟨d1,hd1⟩:∃ d1,(off:Int) - jq=d1:=⟨_,rfl⟩;obtain ⟨d2,hd2⟩:∃ d2,(oc:Int) - jq=d2:=⟨_,rfl⟩;have hd1w:IntKind.i64.wrap ((off:Int) - jq)=d1:=by rw [Zg];omega
      have hd2w:IntKind.i64.wrap ((oc:Int) - jq)=d2:=by rw [Zg];omega
      have hdl:=HDL.out;unfold dl at hdl;rw [hj] at hdl
      have HX:=Za (p:=lo<hi∧hi≤256∧lo≤255∧D+(hi - lo)=dl off cn first (k+1)∧j*256+lo=off+D∧D≤32768) (by
        unfold dl;rw [show first+(k+1)=j+1 by omega]
        split at hlo <;> split at hhi <;> omega)
      have hlh1:(lo:Int)≤(hi:Int):=by have:=HX.out;omega
      have hlh2:(hi:Int)≤256:=by have:=HX.out;omega
      have hlh3:¬ 256=lo:=by have:=HX.out;omega
      rw [hd1] at hlo;rw [hd2] at hhi;have HLO2:=Za hlo;have HHI:=Za hhi;obtain ⟨mh,hmh⟩:∃ mh,hi - lo=mh:=⟨_,rfl⟩;rw [hmh] at HX;have HMH:=Za (p:=hi - lo=mh∧lo<hi∧hi≤256) ⟨hmh,by omega,by omega⟩;have cz:wr.cell? ⟨g12,j,none⟩=some (.int .i64 (zk:Int)):=by rw [HR12.out.cell,inl_get _ (by omega),hzk]
      have hkw:IntKind.i64.wrap ((k:Int)+1)=(k:Int)+1:=by rw [Zg];omega
      have HCN:=Za (dcontentW zk fb HDK.out hct);have HKK:=Za hk;clear hk hzk hct hj hjq hkf hlo hhi hdl hd1 hd2 hfb hoc
      go_wp2_with (first
        | (go_at_call 79;refine HCN.out.mono ?_;rintro e w13 ⟨rfl,hk,hc⟩;obtain ⟨_,_,_,_,hdd⟩:=HDK.out.desk
           have HO13:=Za (own_chg HO.out hc.out (fun x hx=>by rw [Zr] at hx;subst hx;exact row_parted hdd HO.out (by decide)));have HK13:=hk;have HC13:=Za (p:=Chg [gd] w8 w13) (chg_same HCW.out hc.out);have HR1213:=Za (hc.out.row HR12.out (by have:=HGX.out;simp;omega));clear hk hc hdd cz)
        | (refine step_alloc rfl 15 rfl 110 rfl _ hzb.out ?_;intro g15 w14 hr8 hg8 hb8 hs8;have HR1514:=Za hr8
           have HK14:=Za (HK13.out.below hb8);have HC14:=Za (chg_nxt HC13.out hb8);have HO14:=Za (own_kept HO13.out hb8);have HR1214:=Za (HR1213.out.kept hb8);have HG15:=Za (p:=w8.heap.size≤g15∧g12<g15) (by rw [hg8.out];exact ⟨HC13.out.size,HR1213.out.lt⟩);clear hr8 hg8 hb8 hs8)
        | (refine step_store rfl 110 (.tmp 15) (.tmp 60) rfl g15 rfl _ _ (brr 256 fb) rfl HR1514.out (by rw [brr_len,brr_len]) (i5.out _) (brr_one _ _) ?_;intro w15 hr9 hg9 hs9;have HR1515:=Za hr9
           have HK15:=Za (HK14.out.other HR1514.out (by decide) (by have h1:=HLO.out;have h2:=HG15.out;have h3:=HC8.out.size;omega) (Chg.one hg9));have HC15:=Za (p:=Chg [gd] w8 w15) (chg_own HC14.out HG15.out.1 (Chg.one hg9));have HO15:=Za (own_chg HO14.out (Chg.one hg9) (fun x hx=>by rw [Zr] at hx;subst hx;exact row_parted HR1514.out HO14.out (by decide)));have HR1215:=Za (HR1214.out.grown hg9 (fun e=>by have:=HG15.out;injection e;omega));clear hr9 hg9 hs9)
        | (refine wp_max rfl _ _ _ rfl _ _ _ rfl rfl HLO2.out ?_)
        | (refine wp_min rfl (.tmp 74) _ _ rfl _ _ _ rfl rfl HHI.out ?_)
        | (at_builtin
           refine wpList_app _ rfl _ _ _ rfl 5 iU U w8.heap.size (.slice A' D c') D (bc (lst D fun i=>F (off+i))) rfl HO15.out (some ⟨g15,lo,none⟩) mh (256 - lo) (lst mh fun i=>fb (lo+i)) rfl (by rw [lst_len]) (by
             have h1:=hol_sub2 (Row.hol HR1515.out) lo mh;rwa [lst_drop_take _ _ _ _ (by have:=HMH.out;omega),Nat.zero_add] at h1) (by have h1:=HMH.out;have h2:=HX.out;omega) HC15.out.size ?_
           intro v1 w16 ho1 hg1 hat1;obtain ⟨A1,c1',rfl⟩:=own_sl ho1
           have HO16:=Za (p:=w16.ownsRow w8.heap.size 5 1 (.slice A1 (D+mh) c1') (D+mh) (bc (lst (D+mh) fun i=>F (off+i)))) (by
             rw [lst_add,bc_app]
             have e1:(lst mh fun i=>fb (lo+i))=lst mh fun i=>F (off+(D+i)):=lst_congr fun i hi'=>by
               rw [← HFB.out];show F (j*256+(lo+i))=_;rw [← Nat.add_assoc,HX.out.2.2.2.2.1,Nat.add_assoc]
             rw [e1] at ho1;exact ho1)
           obtain ⟨ah,la,e1,e2,hdd⟩:=HK15.out.desk;have HDR16:=Za (p:=DeskRow w16 gd gv N X) ⟨ah,la,e1,e2,hdd.grown hg1 (row_parted hdd HO15.out (by decide)).symm⟩;have HR1216:=Za (HR1215.out.grown hg1 (row_parted HR1215.out HO15.out (by decide)).symm);have HC16:=Za (p:=Chg [gd] w8 w16) (HC15.out.grown hg1 (fun q hq=>.inr (HO15.out.lt q hq).1));clear ho1 hg1 hat1 e1 e2 hdd))
      go_roundw
      case rel=>exact ⟨k+1,D+mh,A1,c1',HKK,by go_num,rfl,Za HX.out.2.2.2.1,HO16,HDR16,HR1216,HC16⟩
      case measure=>have:=HKK.out;simp [intOf];omega
    · have hkz:¬ (k:Int)<(cnt:Int):=by omega
      have hke:k=cnt:=by have:=HKL.out;omega
      subst hke
      have hDcn:D=cn:=by
        rw [HDL.out];unfold dl;have:=HK.out;omega
      subst hDcn;clear hk;go_wp2;go_ret;refine ⟨⟨A',c',lst D fun i=>F (off+i)⟩,(by rw [lst_len];rfl),Za rfl,Za ?_,Za (HK8.out.again HCW.out HDR.out),Za (HC8.out.trans HCW.out (fun x hx=>.inl hx))⟩;have h1:=own_lower HO.out HC8.out.size;unfold Own8 bvv;simp only [lst_len];exact h1
theorem dread_nil (v:Nat→Int) (off count:Nat) (h:DK b w gd gv gm gs r Bs N n X) (hn:n≤3000) (sz:Nat) (hsz:v 5=(sz:Int)) (hsz2:sz≤32768) (hoff:sz≤off):
    Calls Tryz.prog 38 #[.pointer (some ⟨gd,0,none⟩),.agg (ncs v).toArray,.int .i64 (off:Int),.int .i64 (count:Int)] w (DSee b w gd gv gm gs r Bs N n X []):=by
  have HBG:=Za (hbegin h hn);have HLT:=Za h.lt;have HV:=Za (p:=∀ W g,Row W g 43 (ncs v)→W.cell? ⟨g,5,none⟩=some (.int .i64 (sz:Int))) (fun W g h=>by rw [← hsz];exact (h.cell 5).trans rfl);have HM1:=Za (p:=(if (32768:Int)<(sz:Int) then 32768 else (sz:Int))=(sz:Int)) (by rw [if_neg (by omega)]);have g1:¬ (off:Int)<0:=by omega
  have g2:(sz:Int)≤(off:Int):=by omega
  clear h hn hsz hsz2 hoff;go_enter Tryz.func38,Tryz.ntmps38
  go_wp2_with (first
    | (refine step_box rfl 5 rfl 43 (.tmp 1) rfl (ncs v) rfl ?_;intro g5 w2 hr2 hg2 hb2 hs2;have HR52:=Za hr2
       have HB2:=Za hb2;have HG5:=Za (p:=w.heap.size≤g5) (Nat.le_of_eq hg2.out.symm);clear hr2 hg2 hb2 hs2)
    | (go_at_call 27;refine (HBG.out _ HB2.out).mono ?_;rintro e w4 ⟨rfl,hk,hc⟩;have HK4:=hk
       have HC4:=Za (p:=Chg [gd] w w4) ((Chg.of (F:=[gd]) HB2.out).trans hc.out (fun x hx=>.inl hx));have c5:=HV.out _ _ (hc.out.row HR52.out (by have h1:=HLT.out;have h2:=HG5.out;simp;omega));clear hk hc)
    | (refine wp_min rfl (.tmp 20) _ _ rfl _ _ _ rfl rfl HM1.out ?_))
  go_ret;exact ⟨noBV,rfl,Za rfl,Za (Own8.none_ _ _),HK4,HC4⟩
end
/- Inodes and lists there and back;a volume of bytes 0;a new desk. Conditions:those named. -/
theorem rd_blk (v:Nat→Int) (h:mayB v=true) (hw:Wf v) (k:Nat) (hk:k<27):rd sz (blk sz v 27) k=v k:=rd_nb sz v 27 k hk _ (May.fits h hw k hk).1 (May.fits h hw k hk).2
theorem mayB_congr {v u:Nat→Int} (h:∀ k,k<27→v k=u k):mayB v=mayB u:=by
  unfold mayB slotB;rw [h 0 (by omega),h 1 (by omega),h 4 (by omega),h 5 (by omega),h 6 (by omega),h 8 (by omega),h 26 (by omega)]
  have e:(List.range 16).all (fun j=>decide (0≤v (10+j)) && decide (v (10+j)≤255))=(List.range 16).all (fun j=>decide (0≤u (10+j)) && decide (u (10+j)≤255)):=by
    rw [Bool.eq_iff_iff,List.all_eq_true,List.all_eq_true];constructor
    · intro h1 j hj;rw [← h (10+j) (by have:=List.mem_range.1 hj;omega)];exact h1 j hj
    · intro h1 j hj;rw [h (10+j) (by have:=List.mem_range.1 hj;omega)];exact h1 j hj
  rw [e]
theorem iOk_blk (v:Nat→Int) (h:mayB v=true) (hw:Wf v):iOk (blk sz v 27)=true:=by
  have hr:=rd_blk v h hw;unfold iOk;rw [blk_len sz v 27 (by decide),mayB_congr hr,h]
  have e:blk sz (rd sz (blk sz v 27)) 27=blk sz v 27:=by
    have:=nb_congr sz 27 hr;unfold blk at this ⊢;rw [this]
  rw [decide_eq_true e];rfl
theorem rd_lblk (f:Nat→Int) (h:slotB f 112=true) (k:Nat) (hk:k<112):rd s2 (blk s2 f 112) k=f k:=
  rd_nb s2 f 112 k hk _ ((slotB_iff f 112).1 h k hk).1 (by have h2:=(slotB_iff f 112).1 h k hk;show (f k).toNat<65536;omega)
theorem slotB_congr {f g:Nat→Int} {n:Nat} (h:∀ k,k<n→f k=g k):slotB f n=slotB g n:=by
  rw [Bool.eq_iff_iff,slotB_iff,slotB_iff];constructor
  · intro h1 j hj;rw [← h j hj];exact h1 j hj
  · intro h1 j hj;rw [h j hj];exact h1 j hj
theorem lV_blk (f:Nat→Int) (h:slotB f 112=true):lV (blk s2 f 112)=.tuple #[.agg (inl 112 f).toArray,.int .i64 0]:=by
  have hr:=rd_lblk f h
  have hok:lOk (blk s2 f 112)=true:=by
    unfold lOk;rw [blk_len s2 f 112 (by decide),slotB_congr hr,h]
    have e:blk s2 (rd s2 (blk s2 f 112)) 112=blk s2 f 112:=by
      have:=nb_congr s2 112 hr;unfold blk at this ⊢;rw [this]
    rw [decide_eq_true e];rfl
  rw [lV_ok hok,inl_congr hr]
theorem iV_blk (v:Nat→Int) (h:mayB v=true) (hw:Wf v):iV (blk sz v 27)=.tuple #[.agg (ncs v).toArray,.int .i64 0]:=by
  rw [iV_ok (iOk_blk v h hw)];rw [ncs_congr (rd_blk v h hw)]
theorem norm_256 {l:L8} (h:l.length=256):norm l=l:=norm_some (fun e=>by rw [e] at h;cases h)
structure Vol (base:Nat) (w:World) (gs:Nat) (A:Option Addr) (c:Nat) (Bs:List BV):Prop where
  row:Row w gs 64 [.slice A Bs.length c]
  own:w.ownsRow base 23 1 (.slice A Bs.length c) Bs.length (Bs.flatMap sc)
  bytes:∀ x ∈ Bs,Own8 base w x
  len:∀ x ∈ Bs,x.l.length=256
  lim:Bs.length≤300
  lo:base≤gs
section
variable {base:Nat} {w w':World} {gs:Nat} {A:Option Addr} {c:Nat} {Bs:List BV}
theorem Vol.below (h:Vol base w gs A c Bs) (hb:Below w.heap.size w w'):Vol base w' gs A c Bs:=⟨h.row.kept hb,own_kept h.own hb,fun x hx=>(h.bytes x hx).below hb,h.len,h.lim,h.lo⟩
theorem Vol.src (h:Vol base w gs A c Bs):Src w.heap.size w gs Bs:=by
  refine ⟨h.row.lt,⟨A,c,h.row.cell 0,Lies.own (by decide) sc_len h.own,?_⟩,fun x hx=>HolB.all (h.bytes x hx).hol,h.len,h.lim⟩;by_cases h0:Bs=[]
  · exact .inl h0
  · refine .inr fun ad e=>?_;rcases h.own.2 with ⟨h1,h2⟩ | ⟨g,cap,cur,h1,h2,h3,_⟩
    · exact absurd (Zk h2) h0
    · simp only [Value.slice.injEq] at h1;obtain ⟨h4,_,_⟩:=h1;rw [e] at h4;injection h4 with h4
      rw [h4];exact (Array.getElem?_eq_some_iff.1 h3).1
end
theorem built_vol:Tryz.prog.built 64 []=some #[.slice none 0 0]:=by kernel_rfl
section
variable {P:Program} {o:Oper} {a:Act} {w:World} {K:Act→World→Prop} {Q:Exit→Act→World→Prop}
theorem k_make8 (l c:Operand) (t e:TypeId) (i:TypeInfo) (U:U8 P t e i) (hop:o.op=Op.makeSlice t l c) (n:Nat) (hl:a.eval l=.int .i64 n) (hc:a.eval c=.int .i64 n) (hn:n≤70368744177664)
    (h:∀ g w',Row w' g e (brr n fun _=>0)→Hid (g=w.heap.size)→Below w.heap.size w w'→K (a.put o.dst (.slice (some ⟨g,0,none⟩) n n)) w'):Oper.wp P o a w K Q:=by
  have hr:=run_make (P:=P) w t e i (.int .u8 0) U.ht U.hi U.hz .i64 .i64 n n (by omega) (Int.le_refl _) (by rw [U.h2];omega) (by omega);simp only [Yf,U.h1] at hr;rw [made_brr] at hr;unfold Oper.wp;simp [execOp,hop,hl,hc,hr,Result.andThen];exact h _ _ (Row.made w e _) (show _=_ from rfl) ((Below.refl _ _).alloc (Zj _) _)
theorem k_join13 {t e:TypeId} {k:Nat} (s x:Operand) (ho:o.op=.call { callee:=.builtin .append,args:=#[s,x],argTypes:=#[t,t] }) (R:Rec P t e k) (base:Nat) (v:Value) (n:Nat) (xs:List Value) (hs:a.eval s=v) (hown:w.ownsRow base e k v n xs)
    (A:Option Addr) (m c:Nat) (ys:List Value) (hx:a.eval x=.slice A m c) (hys:ys.length=m*k) (hA:m=0∧A=none∨∃ ad,A=some ad∧∀ j u,ys[j]?=some u→w.cell? (ad.add j)=some u) (h1:∀ u ∈ ys,u.oneCell'=true) (hb:n+m≤1000001) (hbase:base≤w.heap.size)
    (h:∀ v' w',w'.ownsRow base e k v' (n+m) (xs++ys)→w.grownBy w' v.ownBlock→(v'.ownBlock=v.ownBlock∨v'.ownBlock=some w.heap.size)→K (a.put o.dst v') w'):Oper.wp P o a w K Q:=by
  obtain ⟨v',w',hr,h2,h3,h4⟩:=run_join (P:=P) R o.type base v n xs hown A m c ys hys hA h1 hb hbase;unfold Oper.wp execOp;simp only [ho,resolve,invoke,builtin,Sem.run_bind,Sem.run_pure,Zw,List.map_toArray,List.map_cons,List.map_nil,hs,hx,hr];exact h v' w' h2 h3 h4
end
theorem bs_sl (A:Option Addr) (n c:Nat) (w:World):(Instr.buildSlice 51 1 #[(0,.slice A n c)]).run Tryz.prog w=.ok (.slice (some ⟨w.heap.size,0,none⟩) 1 1) (w.alloc (.cells [Value.slice A n c].toArray 23)):=by kernel_rfl
section
variable {o:Oper} {a:Act} {w:World} {K:Act→World→Prop} {Q:Exit→Act→World→Prop}
theorem k_bs_sl (x:Operand) (ho:o.op=.buildSlice 51 1 #[(0,x)]) (A:Option Addr) (n c:Nat) (hx:a.eval x=.slice A n c)
    (h:∀ g w',Row w' g 23 [.slice A n c]→Hid (g=w.heap.size)→Below w.heap.size w w'→K (a.put o.dst (.slice (some ⟨g,0,none⟩) 1 1)) w'):Oper.wp Tryz.prog o a w K Q:=by
  have hr:=bs_sl A n c w;unfold Oper.wp execOp;simp only [ho,hx,List.map_toArray,List.map_cons,List.map_nil,Sem.run_bind,hr,Zw];exact h _ _ (Row.made w _ _) (show _=_ from rfl) ((Below.refl _ _).alloc (Zj _) _)
end
def zBV (g:Nat):BV:=⟨some ⟨g,0,none⟩,256,List.replicate 256 0⟩
theorem own_put8 {w:World} {b:Nat} {x:BV} {p:Addr} {u:Value} (h:Own8 b w x) (hn:(bvv x).ownBlock≠some p.block):Own8 b (w.setCell p u) x:=by
  refine Chg.own h ((Chg.refl [p.block] w).setCell (.inl (by simp)) u) fun k hk hf=>?_;rw [Zr] at hf;subst hf;exact hn hk
theorem start_any (m:Nat) (hm:m≤300) (w:World):Calls Tryz.prog 5 #[.int .i64 (m:Int)] w fun e w'=>∃ gs,e=.returned (.pointer (some ⟨gs,0,none⟩))∧∃ A c Bs,Hid (Vol w.heap.size w' gs A c Bs)∧Hid (Bs.length=m∧∀ x ∈ Bs,x.l=List.replicate 256 0)∧Hid (Below w.heap.size w w'):=by
  obtain ⟨i,U⟩:=u8_tab;have HM:=Za hm;go_enter Tryz.func5,Tryz.ntmps5
  go_wp2_with (first
    | (refine step_build rfl 64 _ rfl [] ?hv _ built_vol ?_;case hv=>(simp [Act.eval]))
    | (refine step_box rfl 6 rfl 64 _ rfl [.slice none 0 0] rfl ?_;intro gs w2 hr2 hg2 hb2 hs2;have HR2:=Za hr2
       have HB2:=Za hb2;have HG2:=Za (p:=w.heap.size≤gs) (Nat.le_of_eq hg2.out.symm);clear hr2 hg2 hb2 hs2))
  go_loopw [4] (fun x wr=>∃ (k:Nat) (A:Option Addr) (c:Nat) (Bs:List BV),Hid (k≤m)∧x=.int .i64 (k:Int)∧Hid (Bs.length=k)∧Hid (Vol w.heap.size wr gs A c Bs)∧Hid (∀ x ∈ Bs,x.l=List.replicate 256 0)∧Hid (Below w.heap.size w wr)) (fun x _=>m - (intOf x).toNat)
  case atStart=>exact ⟨0,none,0,[],Za (Nat.zero_le _),rfl,Za rfl,Za ⟨HR2.out,Ye _ _ _ _,by simp,by simp,by simp,HG2.out⟩,Za (by simp),HB2⟩
  case round =>
    obtain ⟨k,A,c,Bs,HK,rfl,HL,HV,HZ,HB⟩:=hrel;by_cases hk:k<m
    · have hki:(k:Int)<(m:Int):=by omega
      have hkw:IntKind.i64.wrap ((k:Int)+1)=(k:Int)+1:=by rw [Zg];have:=HM.out;omega
      have c0:wr.cell? ⟨gs,0,none⟩=some (.slice A Bs.length c):=HV.out.row.cell 0;obtain ⟨D,hD⟩:∃ D,Bs.length=D:=⟨_,rfl⟩;rw [hD] at c0;have HD:=Za hD;have HKK:=Za hk;clear hk hD;go_wp2;refine Zq (S:=fun _=>True) (by kernel_rfl) trivial (fun hHeld=>?_);refine Ze (i:=0) (oi:=⟨some 12,.move (.tmp 3),_,_,_,_⟩) (v:=.pointer (some ⟨gs,0,none⟩)) rfl (by kernel_rfl) (by kernel_rfl) (by kernel_rfl) (fun _ _ _ h=>h) (.inl ⟨by rfl,fun w hSw=>by go_simp⟩) (by assumption) ?_;simp only [Act.put,Zb,Zc,Zd];refine Ze (i:=1) (oi:=⟨some 13,.move (.tmp 3),_,_,_,_⟩) (v:=.pointer (some ⟨gs,0,none⟩)) rfl (by kernel_rfl) (by kernel_rfl) (by kernel_rfl) (fun _ _ _ h=>h) (.inl ⟨by rfl,fun w hSw=>by go_simp⟩) (by assumption) ?_;simp only [Act.put,Zb,Zc,Zd];refine Ze (i:=2) (oi:=⟨some 14,.nilCheck (.tmp 13),_,_,_,_⟩) (v:=.pointer (some ⟨gs,0,none⟩)) rfl (by kernel_rfl) (by kernel_rfl) (by kernel_rfl) (fun _ _ _ h=>h) (.inl ⟨by rfl,fun w hSw=>by go_simp⟩) (by assumption) ?_;simp only [Act.put,Zb,Zc,Zd];refine Ze (i:=3) (oi:=⟨some 15,.fieldAddr 64 (.tmp 14) 0,_,_,_,_⟩) (v:=.pointer (some ⟨gs,0,none⟩)) rfl (by kernel_rfl) (by kernel_rfl) (by kernel_rfl) (fun _ _ _ h=>h) (.inl ⟨by rfl,fun w hSw=>by go_simp⟩) (by assumption) ?_;simp only [Act.put,Zb,Zc,Zd];refine Zp (rs:=[4,5]) (by kernel_rfl) (by simp) ?_;refine Zl (o:=⟨some 16,.load 51 (.tmp 15),_,_,_,_⟩) rfl (fun K hK=>?_) (Zl (o:=⟨some 17,.makeSlice 23 (.const (.int .i64 256)) (.const (.int .i64 256)),_,_,_,_⟩) rfl (fun K hK=>?_) Zo)
      · skip;have cl:wr.drew.cell? ⟨gs,0,none⟩=some (.slice A D c):=c0;go_simp;refine hK.out _ _ trivial (fun _hH=>?_);clear hK K cl;refine Zp (rs:=[5]) (by kernel_rfl) (by simp) ?_;refine Zl (o:=⟨some 17,.makeSlice 23 (.const (.int .i64 256)) (.const (.int .i64 256)),_,_,_,_⟩) rfl (fun K hK=>?_) Zo;refine k_make8 (.const (.int .i64 256)) (.const (.int .i64 256)) 23 5 i U rfl 256 (by rfl) (by rfl) (by decide) ?_;intro g4 w4 hr4 hg4 hb4;have HR4:=Za hr4;have HB4:=Za (p:=Below wr.heap.size wr w4) ((below_drw wr).trans (hb4.mono (Zj _)));have HG4:=Za (p:=wr.heap.size≤g4) (Nat.le_of_eq hg4.out.symm);clear hr4 hg4 hb4;refine hK.out _ _ trivial (fun _hH=>?_);clear hK K;refine Zp (rs:=[6]) (by kernel_rfl) (by simp) ?_;refine Zl (o:=⟨some 18,.buildSlice 51 1 #[(0,.tmp 17)],_,_,_,_⟩) rfl (fun K hK=>?_) Zo;refine k_bs_sl (.tmp 17) rfl (some ⟨g4,0,none⟩) 256 256 (by rfl) ?_;intro g5 w5 hr5 hg5 hb5;have HR5:=Za hr5;have HB5:=Za (p:=Below wr.heap.size wr w5) (below_nxt hb5 HB4.out);have HR45:=Za (HR4.out.kept hb5);clear hr5 hg5 hb5;refine hK.out _ _ trivial (fun _hH=>?_);clear hK K;refine Zp (rs:=[7]) (by kernel_rfl) (by simp) ?_;refine Zl (o:=⟨some 19,.call ⟨.builtin .append,#[.tmp 16,.tmp 18],#[51,51]⟩,_,_,_,_⟩) rfl (fun K hK=>?_) Zo
        have hX:Own8 w.heap.size w5 (zBV g4):=by
          have h1:=HR45.out;rw [brr0_bc] at h1;have h2:=row_own8 (b:=w.heap.size) h1 (by have h3:=HB.out.size;have h4:=HG4.out;omega) (by decide);simpa [zBV] using h2
        refine k_join13 (.tmp 16) (.tmp 18) rfl rec_sl w.heap.size (.slice A D c) D (Bs.flatMap sc) (by rfl) (by have h1:=own_kept HV.out.own HB5.out;rwa [HD.out] at h1) (some ⟨g5,0,none⟩) 1 1 [.slice (some ⟨g4,0,none⟩) 256 256] (by rfl) rfl (.inr ⟨_,rfl,fun j u hu=>by rw [Addr.add_lit,Nat.zero_add,HR5.out.cell];exact hu⟩) (by intro u hu;rw [Zr] at hu;subst hu;rfl) (by have h1:=HD.out;have h2:=HV.out.lim;omega) (by have h1:=HB.out.size;have h2:=HB5.out.size;omega) ?_;intro v6 w6 ho6 hg6 hat6;obtain ⟨A6,c6',rfl⟩:=own_sl ho6
        have hne:(Value.slice A D c).ownBlock≠some gs:=by
          have h1:=own_kept HV.out.own HB5.out;rw [HD.out] at h1;exact row_parted (HV.out.row.kept HB5.out) h1 (by decide)
        have HR6:=Za (p:=Row w6 gs 64 [.slice A D c]) (by have h1:=HV.out.row.kept HB5.out;rw [HD.out] at h1;exact h1.grown hg6 hne.symm)
        have HO6:=Za (p:=w6.ownsRow w.heap.size 23 1 (.slice A6 (D+1) c6') (D+1) ((Bs++[zBV g4]).flatMap sc)) (by
          rw [flat_snoc];have e:sc (zBV g4)=[.slice (some ⟨g4,0,none⟩) 256 256]:=by unfold sc bvv zBV;simp
          rw [e];exact ho6)
        have HY6:=Za (p:=∀ x ∈ Bs++[zBV g4],Own8 w.heap.size w6 x∧x.l=List.replicate 256 0) (fun x hx=>by
          have h1:=own_kept HV.out.own HB5.out;rw [HD.out] at h1;rcases List.mem_append.1 hx with hx | hx
          · exact ⟨World.ownsRow.kept ((HV.out.bytes x hx).below HB5.out) hg6 (own_parted ((HV.out.bytes x hx).below HB5.out) h1 (by decide)),HZ.out x hx⟩
          · rw [Zr] at hx;subst hx;exact ⟨World.ownsRow.kept hX hg6 (own_parted hX h1 (by decide)),rfl⟩)
        have HB6:=Za (p:=Below w.heap.size w w6) ((HB.out.trans (HB5.out.mono HB.out.size)).grown hg6 (by have h1:=HB.out.size;have h2:=HB5.out.size;omega) (fun q hq=>by
          have h1:=own_kept HV.out.own HB5.out;rw [HD.out] at h1;exact (h1.lt q hq).1))
        have c6:w6.cell? ⟨gs,0,none⟩=some (.slice A D c):=HR6.out.cell 0;clear ho6 hg6 hat6 hX hne;refine hK.out _ _ trivial (fun _hH=>?_);clear hK K;refine Ze (i:=8) (oi:=⟨some 20,.nilCheck (.tmp 12),_,_,_,_⟩) (v:=.pointer (some ⟨gs,0,none⟩)) rfl (by kernel_rfl) (by kernel_rfl) (by kernel_rfl) (fun _ _ _ h=>h) (.inl ⟨by rfl,fun w hSw=>by go_simp⟩) (by assumption) ?_;simp only [Act.put,Zb,Zc,Zd];refine Ze (i:=9) (oi:=⟨some 21,.fieldAddr 64 (.tmp 20) 0,_,_,_,_⟩) (v:=.pointer (some ⟨gs,0,none⟩)) rfl (by kernel_rfl) (by kernel_rfl) (by kernel_rfl) (fun _ _ _ h=>h) (.inl ⟨by rfl,fun w hSw=>by go_simp⟩) (by assumption) ?_;simp only [Act.put,Zb,Zc,Zd];refine Zp (rs:=[10]) (by kernel_rfl) (by simp) ?_;refine Zl (o:=⟨none,.store 51 (.tmp 21) (.tmp 19),_,_,_,_⟩) rfl (fun K hK=>?_) Zo;have f6:=HR6.out.free 0;have HR7:=Za (HR6.out.put 0 (.slice A6 (D+1) c6'));have c7:(w6.setCell ⟨gs,0,none⟩ (.slice A6 (D+1) c6')).cell? ⟨gs,0,none⟩=some (.slice A6 (D+1) c6'):=HR7.out.cell 0;go_simp;refine hK.out _ _ trivial (fun _hH=>?_);clear hK K;refine Yg (by kernel_rfl) ?_ _
        have HV7:=Za (p:=Vol w.heap.size (w6.setCell ⟨gs,0,none⟩ (.slice A6 (D+1) c6')) gs A6 c6' (Bs++[zBV g4])) (by
          have hlen:(Bs++[zBV g4]).length=D+1:=by rw [Zf,HD.out];rfl
          have hcg:Chg [gs] w6 (w6.setCell ⟨gs,0,none⟩ (.slice A6 (D+1) c6')):=(Chg.refl _ _).setCell (.inl (by simp)) _;refine ⟨by rw [hlen];exact HR7.out,?_,fun x hx=>own_put8 (HY6.out x hx).1 (row_parted HR6.out (HY6.out x hx).1 (by decide)),fun x hx=>(by rw [(HY6.out x hx).2];simp),by rw [hlen];have h1:=HKK.out;have h2:=HM.out;have h3:=HD.out;have h4:=HL.out;omega,HV.out.lo⟩;rw [hlen];exact own_chg HO6.out hcg (fun g hg=>by rw [Zr] at hg;subst hg;exact row_parted HR6.out HO6.out (by decide)))
        have HB7:=Za (p:=Below w.heap.size w (w6.setCell ⟨gs,0,none⟩ (.slice A6 (D+1) c6'))) (HB6.out.setCell HV.out.lo _);clear c6 c7;generalize w6.setCell ⟨gs,0,none⟩ (.slice A6 (D+1) c6')=w7 at HV7 HB7 HR7 ⊢;go_wp2;go_roundw
        case rel=>exact ⟨k+1,A6,c6',_,HKK,by go_num,Za (by rw [Zf,HL.out];rfl),HV7,Za (fun x hx=>(HY6.out x hx).2),HB7⟩
        case measure=>have:=HKK.out;simp [intOf];omega
      · skip;refine k_make8 (.const (.int .i64 256)) (.const (.int .i64 256)) 23 5 i U rfl 256 (by rfl) (by rfl) (by decide) ?_;intro g4 w4 hr4 hg4 hb4;have HR4:=Za hr4;have HB4:=Za (p:=Below wr.heap.size wr w4) ((below_drw wr).trans (hb4.mono (Zj _)));have HG4:=Za (p:=wr.heap.size≤g4) (Nat.le_of_eq hg4.out.symm);clear hr4 hg4 hb4;refine hK.out _ _ trivial (fun _hH=>?_);clear hK K;refine Zp (rs:=[4,6]) (by kernel_rfl) (by simp) ?_;refine Zl (o:=⟨some 16,.load 51 (.tmp 15),_,_,_,_⟩) rfl (fun K hK=>?_) (Zl (o:=⟨some 18,.buildSlice 51 1 #[(0,.tmp 17)],_,_,_,_⟩) rfl (fun K hK=>?_) Zo)
        · skip;have cl:w4.cell? ⟨gs,0,none⟩=some (.slice A D c):=(HB4.out.cell (p:=⟨gs,0,none⟩) (Ya wr _ c0)).trans c0;go_simp;refine hK.out _ _ trivial (fun _hH=>?_);clear hK K cl;refine Zp (rs:=[6]) (by kernel_rfl) (by simp) ?_;refine Zl (o:=⟨some 18,.buildSlice 51 1 #[(0,.tmp 17)],_,_,_,_⟩) rfl (fun K hK=>?_) Zo;refine k_bs_sl (.tmp 17) rfl (some ⟨g4,0,none⟩) 256 256 (by rfl) ?_;intro g5 w5 hr5 hg5 hb5;have HR5:=Za hr5;have HB5:=Za (p:=Below wr.heap.size wr w5) (below_nxt hb5 HB4.out);have HR45:=Za (HR4.out.kept hb5);clear hr5 hg5 hb5;refine hK.out _ _ trivial (fun _hH=>?_);clear hK K;refine Zp (rs:=[7]) (by kernel_rfl) (by simp) ?_;refine Zl (o:=⟨some 19,.call ⟨.builtin .append,#[.tmp 16,.tmp 18],#[51,51]⟩,_,_,_,_⟩) rfl (fun K hK=>?_) Zo
          have hX:Own8 w.heap.size w5 (zBV g4):=by
            have h1:=HR45.out;rw [brr0_bc] at h1;have h2:=row_own8 (b:=w.heap.size) h1 (by have h3:=HB.out.size;have h4:=HG4.out;omega) (by decide);simpa [zBV] using h2
          refine k_join13 (.tmp 16) (.tmp 18) rfl rec_sl w.heap.size (.slice A D c) D (Bs.flatMap sc) (by rfl) (by have h1:=own_kept HV.out.own HB5.out;rwa [HD.out] at h1) (some ⟨g5,0,none⟩) 1 1 [.slice (some ⟨g4,0,none⟩) 256 256] (by rfl) rfl (.inr ⟨_,rfl,fun j u hu=>by rw [Addr.add_lit,Nat.zero_add,HR5.out.cell];exact hu⟩) (by intro u hu;rw [Zr] at hu;subst hu;rfl) (by have h1:=HD.out;have h2:=HV.out.lim;omega) (by have h1:=HB.out.size;have h2:=HB5.out.size;omega) ?_;intro v6 w6 ho6 hg6 hat6;obtain ⟨A6,c6',rfl⟩:=own_sl ho6
          have hne:(Value.slice A D c).ownBlock≠some gs:=by
            have h1:=own_kept HV.out.own HB5.out;rw [HD.out] at h1;exact row_parted (HV.out.row.kept HB5.out) h1 (by decide)
          have HR6:=Za (p:=Row w6 gs 64 [.slice A D c]) (by have h1:=HV.out.row.kept HB5.out;rw [HD.out] at h1;exact h1.grown hg6 hne.symm)
          have HO6:=Za (p:=w6.ownsRow w.heap.size 23 1 (.slice A6 (D+1) c6') (D+1) ((Bs++[zBV g4]).flatMap sc)) (by
            rw [flat_snoc];have e:sc (zBV g4)=[.slice (some ⟨g4,0,none⟩) 256 256]:=by unfold sc bvv zBV;simp
            rw [e];exact ho6)
          have HY6:=Za (p:=∀ x ∈ Bs++[zBV g4],Own8 w.heap.size w6 x∧x.l=List.replicate 256 0) (fun x hx=>by
            have h1:=own_kept HV.out.own HB5.out;rw [HD.out] at h1;rcases List.mem_append.1 hx with hx | hx
            · exact ⟨World.ownsRow.kept ((HV.out.bytes x hx).below HB5.out) hg6 (own_parted ((HV.out.bytes x hx).below HB5.out) h1 (by decide)),HZ.out x hx⟩
            · rw [Zr] at hx;subst hx;exact ⟨World.ownsRow.kept hX hg6 (own_parted hX h1 (by decide)),rfl⟩)
          have HB6:=Za (p:=Below w.heap.size w w6) ((HB.out.trans (HB5.out.mono HB.out.size)).grown hg6 (by have h1:=HB.out.size;have h2:=HB5.out.size;omega) (fun q hq=>by
            have h1:=own_kept HV.out.own HB5.out;rw [HD.out] at h1;exact (h1.lt q hq).1))
          have c6:w6.cell? ⟨gs,0,none⟩=some (.slice A D c):=HR6.out.cell 0;clear ho6 hg6 hat6 hX hne;refine hK.out _ _ trivial (fun _hH=>?_);clear hK K;refine Ze (i:=8) (oi:=⟨some 20,.nilCheck (.tmp 12),_,_,_,_⟩) (v:=.pointer (some ⟨gs,0,none⟩)) rfl (by kernel_rfl) (by kernel_rfl) (by kernel_rfl) (fun _ _ _ h=>h) (.inl ⟨by rfl,fun w hSw=>by go_simp⟩) (by assumption) ?_;simp only [Act.put,Zb,Zc,Zd];refine Ze (i:=9) (oi:=⟨some 21,.fieldAddr 64 (.tmp 20) 0,_,_,_,_⟩) (v:=.pointer (some ⟨gs,0,none⟩)) rfl (by kernel_rfl) (by kernel_rfl) (by kernel_rfl) (fun _ _ _ h=>h) (.inl ⟨by rfl,fun w hSw=>by go_simp⟩) (by assumption) ?_;simp only [Act.put,Zb,Zc,Zd];refine Zp (rs:=[10]) (by kernel_rfl) (by simp) ?_;refine Zl (o:=⟨none,.store 51 (.tmp 21) (.tmp 19),_,_,_,_⟩) rfl (fun K hK=>?_) Zo;have f6:=HR6.out.free 0;have HR7:=Za (HR6.out.put 0 (.slice A6 (D+1) c6'));have c7:(w6.setCell ⟨gs,0,none⟩ (.slice A6 (D+1) c6')).cell? ⟨gs,0,none⟩=some (.slice A6 (D+1) c6'):=HR7.out.cell 0;go_simp;refine hK.out _ _ trivial (fun _hH=>?_);clear hK K;refine Yg (by kernel_rfl) ?_ _
          have HV7:=Za (p:=Vol w.heap.size (w6.setCell ⟨gs,0,none⟩ (.slice A6 (D+1) c6')) gs A6 c6' (Bs++[zBV g4])) (by
            have hlen:(Bs++[zBV g4]).length=D+1:=by rw [Zf,HD.out];rfl
            have hcg:Chg [gs] w6 (w6.setCell ⟨gs,0,none⟩ (.slice A6 (D+1) c6')):=(Chg.refl _ _).setCell (.inl (by simp)) _;refine ⟨by rw [hlen];exact HR7.out,?_,fun x hx=>own_put8 (HY6.out x hx).1 (row_parted HR6.out (HY6.out x hx).1 (by decide)),fun x hx=>(by rw [(HY6.out x hx).2];simp),by rw [hlen];have h1:=HKK.out;have h2:=HM.out;have h3:=HD.out;have h4:=HL.out;omega,HV.out.lo⟩;rw [hlen];exact own_chg HO6.out hcg (fun g hg=>by rw [Zr] at hg;subst hg;exact row_parted HR6.out HO6.out (by decide)))
          have HB7:=Za (p:=Below w.heap.size w (w6.setCell ⟨gs,0,none⟩ (.slice A6 (D+1) c6'))) (HB6.out.setCell HV.out.lo _);clear c6 c7;generalize w6.setCell ⟨gs,0,none⟩ (.slice A6 (D+1) c6')=w7 at HV7 HB7 HR7 ⊢;go_wp2;go_roundw
          case rel=>exact ⟨k+1,A6,c6',_,HKK,by go_num,Za (by rw [Zf,HL.out];rfl),HV7,Za (fun x hx=>(HY6.out x hx).2),HB7⟩
          case measure=>have:=HKK.out;simp [intOf];omega
        · skip;refine k_bs_sl (.tmp 17) rfl (some ⟨g4,0,none⟩) 256 256 (by rfl) ?_;intro g5 w5 hr5 hg5 hb5;have HR5:=Za hr5;have HB5:=Za (p:=Below wr.heap.size wr w5) (below_nxt hb5 HB4.out);have HR45:=Za (HR4.out.kept hb5);clear hr5 hg5 hb5;refine hK.out _ _ trivial (fun _hH=>?_);clear hK K;refine Zp (rs:=[4]) (by kernel_rfl) (by simp) ?_;refine Zl (o:=⟨some 16,.load 51 (.tmp 15),_,_,_,_⟩) rfl (fun K hK=>?_) Zo;have cl:w5.cell? ⟨gs,0,none⟩=some (.slice A D c):=(HB5.out.cell (p:=⟨gs,0,none⟩) (Ya wr _ c0)).trans c0;go_simp;refine hK.out _ _ trivial (fun _hH=>?_);clear hK K cl;refine Zp (rs:=[7]) (by kernel_rfl) (by simp) ?_;refine Zl (o:=⟨some 19,.call ⟨.builtin .append,#[.tmp 16,.tmp 18],#[51,51]⟩,_,_,_,_⟩) rfl (fun K hK=>?_) Zo
          have hX:Own8 w.heap.size w5 (zBV g4):=by
            have h1:=HR45.out;rw [brr0_bc] at h1;have h2:=row_own8 (b:=w.heap.size) h1 (by have h3:=HB.out.size;have h4:=HG4.out;omega) (by decide);simpa [zBV] using h2
          refine k_join13 (.tmp 16) (.tmp 18) rfl rec_sl w.heap.size (.slice A D c) D (Bs.flatMap sc) (by rfl) (by have h1:=own_kept HV.out.own HB5.out;rwa [HD.out] at h1) (some ⟨g5,0,none⟩) 1 1 [.slice (some ⟨g4,0,none⟩) 256 256] (by rfl) rfl (.inr ⟨_,rfl,fun j u hu=>by rw [Addr.add_lit,Nat.zero_add,HR5.out.cell];exact hu⟩) (by intro u hu;rw [Zr] at hu;subst hu;rfl) (by have h1:=HD.out;have h2:=HV.out.lim;omega) (by have h1:=HB.out.size;have h2:=HB5.out.size;omega) ?_;intro v6 w6 ho6 hg6 hat6;obtain ⟨A6,c6',rfl⟩:=own_sl ho6
          have hne:(Value.slice A D c).ownBlock≠some gs:=by
            have h1:=own_kept HV.out.own HB5.out;rw [HD.out] at h1;exact row_parted (HV.out.row.kept HB5.out) h1 (by decide)
          have HR6:=Za (p:=Row w6 gs 64 [.slice A D c]) (by have h1:=HV.out.row.kept HB5.out;rw [HD.out] at h1;exact h1.grown hg6 hne.symm)
          have HO6:=Za (p:=w6.ownsRow w.heap.size 23 1 (.slice A6 (D+1) c6') (D+1) ((Bs++[zBV g4]).flatMap sc)) (by
            rw [flat_snoc];have e:sc (zBV g4)=[.slice (some ⟨g4,0,none⟩) 256 256]:=by unfold sc bvv zBV;simp
            rw [e];exact ho6)
          have HY6:=Za (p:=∀ x ∈ Bs++[zBV g4],Own8 w.heap.size w6 x∧x.l=List.replicate 256 0) (fun x hx=>by
            have h1:=own_kept HV.out.own HB5.out;rw [HD.out] at h1;rcases List.mem_append.1 hx with hx | hx
            · exact ⟨World.ownsRow.kept ((HV.out.bytes x hx).below HB5.out) hg6 (own_parted ((HV.out.bytes x hx).below HB5.out) h1 (by decide)),HZ.out x hx⟩
            · rw [Zr] at hx;subst hx;exact ⟨World.ownsRow.kept hX hg6 (own_parted hX h1 (by decide)),rfl⟩)
          have HB6:=Za (p:=Below w.heap.size w w6) ((HB.out.trans (HB5.out.mono HB.out.size)).grown hg6 (by have h1:=HB.out.size;have h2:=HB5.out.size;omega) (fun q hq=>by
            have h1:=own_kept HV.out.own HB5.out;rw [HD.out] at h1;exact (h1.lt q hq).1))
          have c6:w6.cell? ⟨gs,0,none⟩=some (.slice A D c):=HR6.out.cell 0;clear ho6 hg6 hat6 hX hne;refine hK.out _ _ trivial (fun _hH=>?_);clear hK K;refine Ze (i:=8) (oi:=⟨some 20,.nilCheck (.tmp 12),_,_,_,_⟩) (v:=.pointer (some ⟨gs,0,none⟩)) rfl (by kernel_rfl) (by kernel_rfl) (by kernel_rfl) (fun _ _ _ h=>h) (.inl ⟨by rfl,fun w hSw=>by go_simp⟩) (by assumption) ?_;simp only [Act.put,Zb,Zc,Zd];refine Ze (i:=9) (oi:=⟨some 21,.fieldAddr 64 (.tmp 20) 0,_,_,_,_⟩) (v:=.pointer (some ⟨gs,0,none⟩)) rfl (by kernel_rfl) (by kernel_rfl) (by kernel_rfl) (fun _ _ _ h=>h) (.inl ⟨by rfl,fun w hSw=>by go_simp⟩) (by assumption) ?_;simp only [Act.put,Zb,Zc,Zd];refine Zp (rs:=[10]) (by kernel_rfl) (by simp) ?_;refine Zl (o:=⟨none,.store 51 (.tmp 21) (.tmp 19),_,_,_,_⟩) rfl (fun K hK=>?_) Zo;have f6:=HR6.out.free 0;have HR7:=Za (HR6.out.put 0 (.slice A6 (D+1) c6'));have c7:(w6.setCell ⟨gs,0,none⟩ (.slice A6 (D+1) c6')).cell? ⟨gs,0,none⟩=some (.slice A6 (D+1) c6'):=HR7.out.cell 0;go_simp;refine hK.out _ _ trivial (fun _hH=>?_);clear hK K;refine Yg (by kernel_rfl) ?_ _
          have HV7:=Za (p:=Vol w.heap.size (w6.setCell ⟨gs,0,none⟩ (.slice A6 (D+1) c6')) gs A6 c6' (Bs++[zBV g4])) (by
            have hlen:(Bs++[zBV g4]).length=D+1:=by rw [Zf,HD.out];rfl
            have hcg:Chg [gs] w6 (w6.setCell ⟨gs,0,none⟩ (.slice A6 (D+1) c6')):=(Chg.refl _ _).setCell (.inl (by simp)) _;refine ⟨by rw [hlen];exact HR7.out,?_,fun x hx=>own_put8 (HY6.out x hx).1 (row_parted HR6.out (HY6.out x hx).1 (by decide)),fun x hx=>(by rw [(HY6.out x hx).2];simp),by rw [hlen];have h1:=HKK.out;have h2:=HM.out;have h3:=HD.out;have h4:=HL.out;omega,HV.out.lo⟩;rw [hlen];exact own_chg HO6.out hcg (fun g hg=>by rw [Zr] at hg;subst hg;exact row_parted HR6.out HO6.out (by decide)))
          have HB7:=Za (p:=Below w.heap.size w (w6.setCell ⟨gs,0,none⟩ (.slice A6 (D+1) c6'))) (HB6.out.setCell HV.out.lo _);clear c6 c7;generalize w6.setCell ⟨gs,0,none⟩ (.slice A6 (D+1) c6')=w7 at HV7 HB7 HR7 ⊢;go_wp2;go_roundw
          case rel=>exact ⟨k+1,A6,c6',_,HKK,by go_num,Za (by rw [Zf,HL.out];rfl),HV7,Za (fun x hx=>(HY6.out x hx).2),HB7⟩
          case measure=>have:=HKK.out;simp [intOf];omega
    · have hkz:¬ (k:Int)<(m:Int):=by omega
      have hke:k=m:=by have:=HK.out;omega
      clear hk;go_wp2;go_ret;refine ⟨gs,rfl,A,c,Bs,HV,Za ⟨by rw [HL.out,hke],HZ.out⟩,HB⟩
theorem dnew (gv N:Nat) (w:World):Calls Tryz.prog 10 #[.pointer (some ⟨gv,0,none⟩),.int .i64 (N:Int)] w fun e w'=>∃ gd,e=.returned (.pointer (some ⟨gd,0,none⟩))∧Hid (Row w' gd 80 (dcs gv N (bkcs false sup0 sup0) (bkcs false sup0 sup0) false (-1)))∧Hid (w.heap.size≤gd)∧Hid (Below w.heap.size w w'):=by
  have hn:∀ w:World,(binOp .eql 27 (.pointer (some ⟨gv,0,none⟩)) (.pointer none)).run Tryz.prog w=.ok (.bool false) w:=fun w=>by kernel_rfl
  obtain ⟨D,hD⟩:∃ D,dcs gv N (bkcs false sup0 sup0) (bkcs false sup0 sup0) false (-1)=D:=⟨_,rfl⟩;have HB:=Za (built_desk gv N);rw [hD] at HB ⊢;clear hD;go_enter Tryz.func10,Tryz.ntmps10
  go_wp2_with (first
    | (refine step_build rfl 80 _ rfl [(0,.pointer (some ⟨gv,0,none⟩)),(1,.int .i64 (N:Int)),(5,.int .i64 (-1))] ?hv _ HB.out ?_;case hv=>(simp [Act.eval]))
    | (refine step_box rfl 11 rfl 80 _ rfl D rfl ?_;intro gd w2 hr2 hg2 hb2 hs2;have HR2:=Za hr2
       have HB2:=Za hb2;have HG2:=Za (p:=w.heap.size≤gd) (Nat.le_of_eq hg2.out.symm);clear hr2 hg2 hb2 hs2))
  go_ret;exact ⟨gd,rfl,HR2,HG2,HB2⟩
theorem DK.start {b:Nat} {w w':World} {gd gv gm gs r:Nat} {Bs:List BV} {N n:Nat} {C:Int→Option BV} (hv:VV b w gv gm gs (some ⟨r,0,none⟩) n C) (hr:Row w r 70 (rcs false 0)) (hs:Src b w gs Bs) (hb:b≤r∧b≤w.heap.size)
    (hd:Row w' gd 80 (dcs gv N (bkcs false sup0 sup0) (bkcs false sup0 sup0) false (-1))) (hg:w.heap.size≤gd) (hbl:Below w.heap.size w w'):DK b w' gd gv gm gs r Bs N n ⟨false,sup0,sup0,byL C⟩:=
  ⟨⟨_, -1,bkcs_len _ _ _,bkcs_one _ _ _,hd⟩,⟨C,hv.below hbl,rfl⟩,hr.kept hbl,hs.keep (hbl.mono hb.2),Nat.le_trans hb.2 hg,hb.1,Nat.le_trans hb.2 hbl.size⟩
end Go.Proofs.YtijffkklhgnknaaGreatDoor
