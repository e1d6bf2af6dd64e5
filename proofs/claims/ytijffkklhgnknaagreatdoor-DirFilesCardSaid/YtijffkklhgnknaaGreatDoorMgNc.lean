/- Write, of a file that lies on a desk. Conditions: those named. -/
import Derived.Test.YtijffkklhgnknaaGreatDoorAz
import Derived.Test.YtijffkklhgnknaaGreatDoorMgDf
import Derived.Test.YtijffkklhgnknaaGreatDoorMgEi
import Derived.Lib.SliceRun
set_option maxHeartbeats 20000000
set_option linter.unusedVariables false
set_option maxRecDepth 20000
namespace Go.Proofs.YtijffkklhgnknaaGreatDoor
open Go.RowKit
theorem zc_congr {R R':Nat→Int} (first:Nat):∀ k,(∀ j,j<k→R (first+j)=R' (first+j))→zc R first k=zc R' first k
  | 0,_=>rfl
  | k+1,h=>by rw [zc_succ,zc_succ,zc_congr first k (fun j hj=>h j (by omega)),h k (by omega)]
theorem wrs_congr (X:DX) {sl sl':Nat→Int} (bk:Nat→Nat→UInt8):∀ k,(∀ j,j<k→sl j=sl' j)→X.wrs sl bk k=X.wrs sl' bk k
  | 0,_=>rfl
  | k+1,h=>by
    show (X.wrs sl bk k).put (sl k) _=(X.wrs sl' bk k).put (sl' k) _;rw [wrs_congr X bk k (fun j hj=>h j (by omega)),h k (by omega)]
theorem wrs_S (X:DX) (sl:Nat→Int) (bk:Nat→Nat→UInt8):∀ k,(X.wrs sl bk k).S=X.S∧(X.wrs sl bk k).rd=X.rd
  | 0=>⟨rfl,rfl⟩
  | k+1=>wrs_S X sl bk k
theorem mixF_at {l:L8} {off bse q:Nat} {g F F2:Nat→UInt8} (hF2:∀ i,F2 i=if off≤i∧i<off+l.length then l.getD (i - off) 0 else F i) (hg:g q=F (bse+q)):mixF l ((off:Int) - (bse:Int)) g q=F2 (bse+q):=by
  rw [hF2];unfold mixF;by_cases h:off≤bse+q∧bse+q<off+l.length
  · rw [if_pos h,if_pos (by omega)];congr 1;omega
  · rw [if_neg h,if_neg (by omega),hg]
section
variable {b:Nat} {w w':World} {gd gv gm gs r:Nat} {Bs:List BV} {N n m:Nat} {X:DX} {v R:Nat→Int} {F F2:Nat→UInt8}
def Wrote (b:Nat) (w:World) (gd gv gm gs r:Nat) (Bs:List BV) (N n m q:Nat) (s:Nat) (si:Nat→Int) (oo:Nat→Bool) (F2:Nat→UInt8) (z:Int) (ee:Ending) (w':World):Prop:=
  ∃ (v2 R2:Nat→Int) (m2:Nat) (X2:DX),ee=.returned (.agg (ncs v2).toArray)∧Hid (FO Bs X2 v2 R2 m2 F2)∧Hid (X2.S=supU s si oo m2∧X2.rd=true∧m≤m2∧m2≤m+q+1)∧Hid (v2 5=z)∧Hid (DK b w' gd gv gm gs r Bs N (n+130) X2)∧Hid (Chg [gd,gm] w w')
theorem FO.write (h:FO Bs X v R m F) (s:Nat) (si:Nat→Int) (oo:Nat→Bool) (hS:X.S=supU s si oo m) (hrd:X.rd=true) (hm1:1≤m) (A:Option Addr) (c off:Nat) (l:L8) (hl1:1≤l.length) (hlc:l.length≤c) (ho:off+l.length≤32768) (hn:n+130≤2999) (hN:N≤256) (q:Nat) (hq:l.length+255≤256*q) (hroom:m+q+2≤N)
    (hk:DK b w gd gv gm gs r Bs N n X) (hD:∀ W,Chg [gd,gm] w W→Hol W A l) (hF2:∀ i,F2 i=if off≤i∧i<off+l.length then l.getD (i - off) 0 else F i) (z:Int) (hz:(if ((off+l.length:Nat):Int) > v 5 then ((off+l.length:Nat):Int) else v 5)=z):
    Calls Tryz.prog 20 #[.pointer (some ⟨gd,0,none⟩),.agg (ncs v).toArray,.int .i64 (off:Int),.slice A l.length c] w (Wrote b w gd gv gm gs r Bs N n m q s si oo F2 z):=by
  obtain ⟨M,hM⟩:∃ M,l.length=M:=⟨_,rfl⟩;obtain ⟨first,hf⟩:∃ first,off / 256=first:=⟨_,rfl⟩
  obtain ⟨e,he⟩:∃ e,(off+M - 1) / 256+1=e:=⟨_,rfl⟩;obtain ⟨cnt,hcnt⟩:∃ cnt,e - first=cnt:=⟨_,rfl⟩
  rw [hM] at hl1 hlc ho hF2 hz hq ⊢;have h128:e≤128:=by omega
  have hfe:first+cnt=e:=by omega
  have hFF:first*256≤off∧off<first*256+256∧off+M≤e*256∧e*256<off+M+256:=by omega
  have hc128:cnt≤128:=by omega
  have hcq:cnt≤q:=by omega
  clear hf he hcnt
  have hex:∀ k,∃ g:Nat→UInt8,k<cnt→∃ zk:Nat,R (first+k)=(zk:Int)∧Cont X Bs zk g∧∀ q,q<256→g q=F ((first+k)*256+q):=fun k=>by
    by_cases hk:k<cnt
    · obtain ⟨zk,h1,_,g,h2,h3⟩:=h.cont (first+k) (by omega);exact ⟨g,fun _=>⟨zk,h1,h2,h3⟩⟩
    · exact ⟨fun _=>0,fun h=>absurd h hk⟩
  obtain ⟨fk,hfk⟩:∃ fk:Nat→Nat→UInt8,∀ k,k<cnt→∃ zk:Nat,R (first+k)=(zk:Int)∧Cont X Bs zk (fk k)∧∀ q,q<256→fk k q=F ((first+k)*256+q):=⟨fun k=>Classical.choose (hex k),fun k=>Classical.choose_spec (hex k)⟩;clear hex;obtain ⟨bk,hbk⟩:∃ bk:Nat→Nat→UInt8,(fun k=>mixF l ((off:Int) - ((first+k:Nat):Int)*256) (fk k))=bk:=⟨_,rfl⟩
  have hbk2:∀ k,k<cnt→∀ q,q<256→bk k q=F2 ((first+k)*256+q):=fun k hk q hq=>by
    obtain ⟨zk,_,_,h3⟩:=hfk k hk;rw [← hbk];show mixF l ((off:Int) - ((first+k:Nat):Int)*256) (fk k) q=_;have h4:=mixF_at (l:=l) (off:=off) (bse:=(first+k)*256) (q:=q) (g:=fk k) (F:=F) (F2:=F2) (by rw [hM];exact hF2) (h3 q hq);rw [← h4,Int.natCast_mul];rfl
  have hF3:∀ j,j<128→¬ (first≤j∧j<e)→∀ q,q<256→F (j*256+q)=F2 (j*256+q):=fun j hj hno q hq=>by
    rw [hF2,if_neg];omega
  have hzc:zc R first cnt≤q:=Nat.le_trans (zc_le R first cnt) hcq
  have hv26:=h.v26;obtain ⟨m2,hm2⟩:∃ m2,flM e (v 26) (m+zc R first cnt)=m2:=⟨_,rfl⟩;obtain ⟨L2,hL2⟩:∃ L2,flL e (v 26) (m+zc R first cnt)=L2:=⟨_,rfl⟩;have hm2b:m≤m2∧m2≤m+q+1:=by rw [← hm2];unfold flM;split <;> omega
  obtain ⟨X1,hX1⟩:∃ X1,(X.setS (supU s si oo m2)).wrs (fun k=>flR R m first cnt (first+k)) bk cnt=X1:=⟨_,rfl⟩
  have hX1S:X1.S=supU s si oo m2∧X1.rd=true:=by
    rw [← hX1];have h1:=wrs_S (X.setS (supU s si oo m2)) (fun k=>flR R m first cnt (first+k)) bk cnt;exact ⟨h1.1,h1.2.trans hrd⟩
  by_cases h16:e≤16
  · have hRD:∀ j,j<16→rowD v j=R j:=fun j hj=>by unfold rowD;rw [if_pos hj,h.dir j hj]
    have hz2:∀ k,k≤cnt→zc (rowD v) first k=zc R first k:=fun k hk=>zc_congr first k (fun j hj=>hRD _ (by omega))
    have hfl:∀ j,j<16→flR (rowD v) m first cnt j=flR R m first cnt j:=fun j hj=>by
      unfold flR;rw [hRD j hj];by_cases hq:first≤j∧j<first+cnt∧R j=0
      · rw [if_pos hq,if_pos hq,hz2 _ (by omega)]
      · rw [if_neg hq,if_neg hq]
    have hout:∀ (Q:Nat→Int) (j:Nat),j<112→flR Q m first cnt (16+j)=Q (16+j):=fun Q j hj=>by
      unfold flR;rw [if_neg (by omega)]
    have hLv:L2=v 26:=by rw [← hL2];unfold flL;rw [if_pos (.inl h16)]
    have hsame:(X.setS (supU s si oo m2)).wrs (fun k=>flR (rowD v) m first cnt (first+k)) bk cnt=X1:=by rw [← hX1];exact wrs_congr _ _ _ (fun j hj=>hfl _ (by omega))
    have hw:=dwrite (X':=X) (X2:=X1) v (rowD v) A c M off first cnt e l fk s m si oo z hk (.inl ⟨hrd,rfl⟩) (by omega) hM hlc hl1 ho hFF hfe hD (h.row_d e h16) (fun j hj=>by
        unfold rowD
        split
        · rw [← h.dir j (by omega)];exact h.bounds j hj
        · omega) (by omega) hS hm1 hN (by rw [hz2 _ (Zj _)];omega) (fun k hk=>by
        obtain ⟨zk,h1,h2,_⟩:=hfk k hk
        exact ⟨zk,by rw [hRD _ (by omega)];exact h1,h2⟩) hz (by
        rw [hz2 _ (Zj _),hm2,hL2,hbk,hsame];exact .inl ⟨.inr ⟨hLv,fun j hj=>hout _ j hj⟩,rfl⟩)
    rw [hz2 _ (Zj _),hL2] at hw;refine hw.mono ?_;rintro ee w' ⟨rfl,hk2,hc2⟩;refine ⟨_,flR R m first cnt,m2,X1,rfl,Za ?_,Za ⟨hX1S.1,hX1S.2,hm2b⟩,Za rfl,Za (hk2.out.mono (by omega)),hc2⟩;refine h.written hm1 first cnt e hfe h128 L2 m2 hL2 hm2 (by omega) bk hbk2 hF3 (supU s si oo m2) (fun j hj=>?_) rfl ?_
    · rw [← hfl j hj];unfold toldV;rw [if_neg (by omega),if_neg (by omega),if_pos (by omega),show 10+j - 10=j by omega]
    · rw [hX1];exact .inl ⟨.inr ⟨hLv,fun j hj=>hout _ j hj⟩,rfl⟩
  · have hPLx:∃ X2,PL X1 (v 26) L2 R (flR R m first cnt) X2∧X2.S=X1.S∧X2.rd=X1.rd:=by
      by_cases hp:L2=0∨(L2=v 26∧∀ j,j<112→flR R m first cnt (16+j)=R (16+j))
      · exact ⟨X1,.inl ⟨hp,rfl⟩,rfl,rfl⟩
      · refine ⟨X1.put L2 (blk s2 (fun j=>flR R m first cnt (16+j)) 112),.inr ⟨fun h=>hp (.inl h),?_,rfl⟩,rfl,rfl⟩;by_cases h1:L2=v 26
        · exact .inr (fun h2=>hp (.inr ⟨h1,h2⟩))
        · exact .inl h1
    obtain ⟨X2,hPL,hX2S,hX2r⟩:=hPLx
    have hw:=dwrite (X':=X) (X2:=X2) v R A c M off first cnt e l fk s m si oo z hk (.inl ⟨hrd,rfl⟩) (by omega) hM hlc hl1 ho hFF hfe hD (h.row e (by omega)) h.bounds (by omega) hS hm1 hN (by omega) (fun k hk=>by
        obtain ⟨zk,h1,h2,_⟩:=hfk k hk
        exact ⟨zk,h1,h2⟩) hz (by
        rw [hm2,hL2,hbk,hX1];exact hPL)
    rw [hL2] at hw;refine hw.mono ?_;rintro ee w' ⟨rfl,hk2,hc2⟩;refine ⟨_,flR R m first cnt,m2,X2,rfl,Za ?_,Za ⟨hX2S.trans hX1S.1,hX2r.trans hX1S.2,hm2b⟩,Za rfl,Za (hk2.out.mono (by omega)),hc2⟩;refine h.written hm1 first cnt e hfe h128 L2 m2 hL2 hm2 (by omega) bk hbk2 hF3 (supU s si oo m2) (fun j hj=>?_) rfl ?_
    · unfold toldV;rw [if_neg (by omega),if_neg (by omega),if_pos (by omega),show 10+j - 10=j by omega]
    · rw [hX1];exact hPL
end
/- A slot given back;what a file had and does not have any more given back. Conditions:the desk lies there,the slots are slots. -/
def DX.give (X:DX) (z:Nat):DX:=(X.setS (X.S.setU z false)).put (z:Int) []
def DX.gives (X:DX) (W0 R:Nat→Int):Nat→DX
  | 0=>X
  | k+1=>if R k=0∧W0 k≠0 then (X.gives W0 R k).give (W0 k).toNat else X.gives W0 R k
def gvs (W0 R:Nat→Int):Nat→Nat
  | 0=>0
  | k+1=>if R k=0∧W0 k≠0 then gvs W0 R k+1 else gvs W0 R k
theorem gvs_le (W0 R:Nat→Int):∀ k,gvs W0 R k≤k
  | 0=>Zj _
  | k+1=>by
    have:=gvs_le W0 R k;show (if R k=0∧W0 k≠0 then gvs W0 R k+1 else gvs W0 R k)≤k+1
    split <;> omega
theorem gvs_mono (W0 R:Nat→Int):∀ j k,j≤k→gvs W0 R j≤gvs W0 R k:=by
  intro j k h
  induction k with
  | zero => have:j=0:=by omega
            rw [this];exact Zj _
  | succ k ih=>
    by_cases e:j=k+1
    · rw [e];exact Zj _
    · have h1:=ih (by omega);refine Nat.le_trans h1 ?_;show gvs W0 R k≤(if R k=0∧W0 k≠0 then gvs W0 R k+1 else gvs W0 R k)
      split <;> omega
def DX.giveL (X:DX) (v26 L:Int):DX:=if L=0∧v26≠0 then X.give v26.toNat else X
def gvL (v26 L:Int):Nat:=if L=0∧v26≠0 then 1 else 0
section
variable {b:Nat} {w w':World} {gd gv gm gs r:Nat} {Bs:List BV} {N n:Nat} {X:DX}
theorem dgive_no (w:World):Calls Tryz.prog 90 #[.pointer (some ⟨gd,0,none⟩),.int .i64 0] w fun e w'=>e=.returned (.tuple #[])∧w=w':=by
  go_enter Tryz.func90,Tryz.ntmps90;go_wp2;refine Yd (results_none rfl _ _ _) rfl ?_;exact ⟨rfl,rfl⟩
theorem dgive_yes (z:Nat) (h:DK b w gd gv gm gs r Bs N n X) (hz:0<z∧z<256) (hn:n≤3000):Calls Tryz.prog 90 #[.pointer (some ⟨gd,0,none⟩),.int .i64 (z:Int)] w (DPut b w gd gv gm gs r Bs N (n+1) (X.give z)):=by
  have hgz:X.S.give (z:Int)=X.S.setU z false:=by
    unfold Sup.give;rw [if_pos (by omega)];rfl
  have HGV:=Za (p:=∀ w,Calls Tryz.prog 118 #[.agg X.S.cs.toArray,.int .i64 (z:Int)] w fun e w'=>e=.returned (.agg (X.S.setU z false).cs.toArray)∧Below w.heap.size w w') (fun w=>by have h1:=give_any X.S (z:Int) w;rw [hgz] at h1;exact h1);have i1:=Za (fun x:Sup=>info_cs x);obtain ⟨tl,ah,la,e1,e2,e3,hd⟩:=h.parts;have HD:=Za hd;have HE:=Za (p:=ah.length=775∧(∀ v ∈ ah,v.oneCell'=true)∧tl=ah++dtl false la) ⟨e1,e2,e3⟩;have H:=Za h;have HN:=Za hn;have HZ:=Za hz;have hz0:¬ (z:Int)≤0:=by omega
  have hz6:¬ (256:Int)≤(z:Int):=by omega
  have d0:decide ((z:Int)≤0)=false:=decide_eq_false hz0;have d6:decide ((256:Int)≤(z:Int))=false:=decide_eq_false hz6;have d7:decide (256≤z)=false:=decide_eq_false (by omega);have d8:decide (z=0)=false:=decide_eq_false (by omega);clear h hn hz hd e1 e2 e3 hgz;go_enter Tryz.func90,Tryz.ntmps90
  go_wp2_with (first
    | (refine step_load_at rfl 76 (.tmp 14) rfl gd 3 (by rfl) 80 (dhd gv N++[Value.bool X.rd]) X.S.cs (X.S0.cs++tl) _ HD.out rfl Yj rfl (i1.out _) ?_)
    | (go_at_call 118;refine (HGV.out _).mono ?_;rintro e w2 ⟨rfl,hb⟩;have HB2:=Za hb
       have HD2:=Za (HD.out.kept hb);have HK2:=Za (H.out.below hb);clear hb)
    | (refine step_store_at rfl 76 (.tmp 20) (.tmp 17) rfl gd 3 (by rfl) 80 (dhd gv N++[Value.bool X.rd]) X.S.cs (X.S.setU z false).cs (X.S0.cs++tl) (by rfl) HD2.out rfl (by simp [Sup.cs_len]) (i1.out _) (Sup.cs_one _) ?_;intro w9 hr9 hg9
       have HK9:=Za (HK2.out.setS HE.out.1 HE.out.2.1 HE.out.2.2 hr9 (Chg.one hg9));have HC9:=Za (p:=Chg [gd] w w9) ((Chg.of (F:=[gd]) HB2.out).trans (Chg.one hg9) (fun x hx=>.inl hx));clear hr9 hg9)
    | (go_at_call 31;refine (dput HK9.out noBV (.inl rfl) (by decide) (z:Int) (by have:=HZ.out;unfold I64;omega) HN.out).mono ?_;rintro e w3 ⟨rfl,hk,hc⟩;have HK3:=hk
       have HC3:=Za (p:=Chg [gd,gm] w w3) ((HC9.out.wider (fun x hx=>.inl (by simp at hx ⊢;exact .inl hx))).trans hc.out (fun x hx=>.inl hx));clear hk hc))
  go_end0;exact ⟨rfl,HK3,HC3⟩
theorem drelease (v W0 R:Nat→Int) (L:Int) (S:Sup) (gp:Nat) (h:DK b w gd gv gm gs r Bs N n X) (hr:Row w gp 106 (S.cs++ptl R L)) (hgp:b≤gp) (hW:∀ j,j<128→0≤W0 j∧W0 j≤255) (hv:0≤v 26∧v 26≤255) (hn:n+gvs W0 R 128+gvL (v 26) L≤3000):
    Calls Tryz.prog 54 #[.pointer (some ⟨gd,0,none⟩),.agg (ncs v).toArray,.agg (inl 128 W0).toArray,.pointer (some ⟨gp,0,none⟩)] w (DPut b w gd gv gm gs r Bs N (n+gvs W0 R 128+gvL (v 26) L) ((X.gives W0 R 128).giveL (v 26) L)):=by
  have i2:=Za (fun v=>info_ncs v);have i3:=Za (fun f=>info_rows f);have H:=Za h;have HR:=Za hr;have HGP:=Za hgp;have HW:=Za hW;have HV:=Za hv;have HN:=Za hn;have HLT:=Za (p:=gd<w.heap.size∧gm<w.heap.size∧gp<w.heap.size∧gp≠gd∧gp≠gm) ⟨h.lt,by obtain ⟨C,h2,_⟩:=h.view;exact h2.map.lt,hr.lt,(by obtain ⟨_,_,_,_,h1⟩:=h.desk;exact hr.ne_ h1 (by decide)),fun e=>by obtain ⟨C,h2,_⟩:=h.view;exact h2.map.no_cells _ _ _ (e ▸ hr.heap)⟩;have HCELL:=Za (p:=∀ W,Row W gp 106 (S.cs++ptl R L)→(∀ k,k<128→W.cell? ⟨gp,387+k,none⟩=some (.int .i64 (R k)))∧W.cell? ⟨gp,515,none⟩=some (.int .i64 L)) (fun W h=>⟨fun k hk=>by rw [h.cell,Zm (by rw [Sup.cs_len];omega),Sup.cs_len,show 387+k - 387=k by omega,ptl_row R L hk],by rw [h.cell,Zm (by rw [Sup.cs_len];omega),Sup.cs_len];exact ptl_list R L⟩);clear h hr hgp hW hv hn;go_enter Tryz.func54,Tryz.ntmps54
  go_wp2_with (first
    | (refine step_box rfl 5 rfl 43 (.tmp 1) rfl (ncs v) rfl ?_;intro g5 w2 hr2 hg2 hb2 hs2;have HR52:=Za hr2
       have HB2:=Za hb2;have HG5:=Za (p:=w.heap.size≤g5) (Nat.le_of_eq hg2.out.symm);clear hr2 hg2 hb2 hs2)
    | (refine step_box rfl 6 rfl 99 (.tmp 2) rfl (inl 128 W0) rfl ?_;intro g6 w3 hr3 hg3 hb3 hs3;have HR63:=Za hr3
       have HR53:=Za (HR52.out.kept hb3);have HB3:=Za (p:=Below w.heap.size w w3) (below_nxt hb3 HB2.out);have HG6:=Za (p:=w.heap.size≤g6) (by rw [hg3.out];exact HB2.out.size);have HK3:=Za (H.out.below HB3.out);have HP3:=Za (HR.out.kept HB3.out);clear hr3 hg3 hb3 hs3))
  go_loopw [9] (fun x wr=>∃ k:Nat,Hid (k≤128)∧x=.int .i64 (k:Int)∧Hid (DK b wr gd gv gm gs r Bs N (n+gvs W0 R k) (X.gives W0 R k))∧Hid (Chg [gd,gm] w3 wr)) (fun x _=>128 - (intOf x).toNat)
  case atStart=>exact ⟨0,Za (by decide),rfl,HK3,Za (Chg.refl _ _)⟩
  case round =>
    obtain ⟨k,HK,rfl,HKR,HCR⟩:=hrel
    rename World=>wo;have HPR:=Za (HCR.out.row HP3.out (by have h1:=HLT.out;simp;omega));have HWR:=Za (HCR.out.row HR63.out (by have h1:=HLT.out;have h2:=HG6.out;simp;omega));by_cases hk:k<128
    · have hki :(k:Int)<128:=by omega
      have hkw:IntKind.i64.wrap ((k:Int)+1)=(k:Int)+1:=by rw [Zg];omega
      have HKK:=Za hk;obtain ⟨z,hz⟩:∃ z:Nat,W0 k=(z:Int):=⟨(W0 k).toNat,by have:=(HW.out k hk).1;omega⟩;obtain ⟨rk,hrk⟩:∃ rk,R k=rk:=⟨_,rfl⟩;have HZ:=Za (p:=W0 k=(z:Int)∧R k=rk∧z<256) ⟨hz,hrk,by have:=(HW.out k hk).2;omega⟩;have c0:wo.cell? ⟨gp,387+k,none⟩=some (.int .i64 rk):=by rw [← hrk];exact (HCELL.out _ HPR.out).1 k hk
      have c1:wo.cell? ⟨g6,k,none⟩=some (.int .i64 (z:Int)):=by rw [← hz,HWR.out.cell,inl_get _ hk]
      have hN2:=gvs_mono W0 R (k+1) 128 (by omega);clear hk hz hrk;by_cases hr0:rk=0
      · have h00:(rk==0)=true:=by rw [hr0];rfl
        subst hr0;by_cases hz0:z=0
        · subst hz0
          go_wp2_with (first
            | (go_at_call 90;refine (dgive_no _).mono ?_;rintro e w4 ⟨rfl,rfl⟩))
          go_roundw
          case rel=>
            have e1:gvs W0 R (k+1)=gvs W0 R k:=if_neg (fun h=>h.2 HZ.out.1);have e2:X.gives W0 R (k+1)=X.gives W0 R k:=if_neg (fun h=>h.2 HZ.out.1);exact ⟨k+1,HKK,by go_num,Za (by rw [e1,e2];exact HKR.out),HCR⟩
          case measure=>have:=HKK.out;simp [intOf];omega
        · have e1:gvs W0 R (k+1)=gvs W0 R k+1:=if_pos ⟨HZ.out.2.1,by rw [HZ.out.1];omega⟩
          have e2:X.gives W0 R (k+1)=(X.gives W0 R k).give z:=by
            show (if R k=0∧W0 k≠0 then (X.gives W0 R k).give (W0 k).toNat else X.gives W0 R k)=_;rw [if_pos ⟨HZ.out.2.1,by rw [HZ.out.1];omega⟩,HZ.out.1];rfl
          have HE:=Za (And.intro e1 e2);have HN3:=Za (p:=n+gvs W0 R k≤3000∧0<z) (by have:=HN.out;omega);clear e1 e2 hz0 hN2
          go_wp2_with (first
            | (go_at_call 90;refine (dgive_yes z HKR.out ⟨HN3.out.2,HZ.out.2.2⟩ HN3.out.1).mono ?_;rintro e w4 ⟨rfl,hk,hc⟩;have HK4:=hk
               have HC4:=Za (p:=Chg [gd,gm] w3 w4) (HCR.out.trans hc.out (fun x hx=>.inl hx));clear hk hc))
          go_roundw
          case rel=>exact ⟨k+1,HKK,by go_num,Za (by rw [HE.out.1,HE.out.2, ← Nat.add_assoc];exact HK4.out),HC4⟩
          case measure=>have:=HKK.out;simp [intOf];omega
      · have h00:(rk==0)=false:=beq_false_of_ne hr0;have e1:gvs W0 R (k+1)=gvs W0 R k:=if_neg (fun h=>hr0 (by rw [← HZ.out.2.1];exact h.1));have e2:X.gives W0 R (k+1)=X.gives W0 R k:=if_neg (fun h=>hr0 (by rw [← HZ.out.2.1];exact h.1));have HE:=Za (And.intro e1 e2);clear e1 e2;go_wp2;go_roundw
        case rel=>exact ⟨k+1,HKK,by go_num,Za (by rw [HE.out.1,HE.out.2];exact HKR.out),HCR⟩
        case measure=>have:=HKK.out;simp [intOf];omega
    · have hkz :¬ (k:Int)<128:=by omega
      have hke:k=128:=by have:=HK.out;omega
      subst hke;have HR5R:=Za (HCR.out.row HR53.out (by have h1:=HLT.out;have h2:=HG5.out;simp;omega));have cL:wo.cell? ⟨gp,515,none⟩=some (.int .i64 L):=(HCELL.out _ HPR.out).2;obtain ⟨z,hz⟩:∃ z:Nat,v 26=(z:Int):=⟨(v 26).toNat,by have:=HV.out.1;omega⟩;have cV:wo.cell? ⟨g5,26,none⟩=some (.int .i64 (z:Int)):=by rw [← hz];exact (HR5R.out.cell 26).trans rfl
      have HZ:=Za (p:=v 26=(z:Int)∧z<256) ⟨hz,by have:=HV.out.2;omega⟩;have HC3:=Za (p:=Chg [gd,gm] w wo) ((Chg.of (F:=[gd,gm]) HB3.out).trans HCR.out (fun x hx=>.inl hx));clear hk hz;by_cases hr0:L=0
      · have h00:(L==0)=true:=by rw [hr0];rfl
        subst hr0;by_cases hz0:z=0
        · subst hz0
          go_wp2_with (first
            | (go_at_call 90;refine (dgive_no _).mono ?_;rintro e w4 ⟨rfl,rfl⟩))
          go_end0;have e1:gvL (v 26) 0=0:=if_neg (fun h=>h.2 HZ.out.1);have e2:(X.gives W0 R 128).giveL (v 26) 0=X.gives W0 R 128:=if_neg (fun h=>h.2 HZ.out.1);exact ⟨rfl,Za (by rw [e1,e2];exact HKR.out),HC3⟩
        · have e1:gvL (v 26) 0=1:=if_pos ⟨rfl,by rw [HZ.out.1];omega⟩
          have e2:(X.gives W0 R 128).giveL (v 26) 0=(X.gives W0 R 128).give z:=by
            unfold DX.giveL;rw [if_pos ⟨rfl,by rw [HZ.out.1];omega⟩,HZ.out.1];rfl
          have HE:=Za (And.intro e1 e2);have HN3:=Za (p:=n+gvs W0 R 128≤3000∧0<z) (by have:=HN.out;omega);clear e1 e2 hz0
          go_wp2_with (first
            | (go_at_call 90;refine (dgive_yes z HKR.out ⟨HN3.out.2,HZ.out.2⟩ HN3.out.1).mono ?_;rintro e w4 ⟨rfl,hk,hc⟩;have HK4:=hk
               have HC4:=Za (p:=Chg [gd,gm] w w4) (HC3.out.trans hc.out (fun x hx=>.inl hx));clear hk hc))
          go_end0;exact ⟨rfl,Za (by rw [HE.out.1,HE.out.2];exact HK4.out),HC4⟩
      · have h00:(L==0)=false:=beq_false_of_ne hr0;have e1:gvL (v 26) L=0:=if_neg (fun h=>hr0 h.1);have e2:(X.gives W0 R 128).giveL (v 26) L=X.gives W0 R 128:=if_neg (fun h=>hr0 h.1);have HE:=Za (And.intro e1 e2);clear e1 e2;go_wp2;go_end0;exact ⟨rfl,Za (by rw [HE.out.1,HE.out.2];exact HKR.out),HC3⟩
end
/- What a slot's block holds where only so many of its bytes stay. Conditions:the desk lies there. -/
section
variable {P:Program} {ops:Array Oper} {rest:List Oper} {o:Oper} {a:Act} {w:World} {Q:Exit→Act→World→Prop}
theorem run_unlike_op (w:World) {a:Act} (o:Oper) (t t':TypeId) (x y:Operand) (ho:o.op=.binOp .neq t x y t') (xs ys:Array Value) (hx:a.eval x=.agg xs) (hy:a.eval y=.agg ys) (hg:P.eqGuardType P.depth t=false) (b:Bool)
    (he:∀ w,(Op.equalIn 10000 t (.agg xs) (.agg ys)).run P w=.ok b w):(execOp a.eval o).run P w=.ok (.value (.bool (!b))) w:=by
  unfold execOp;simp only [ho,hx,hy,Sem.run_bind,run_eqGuard_agg w _ t x y xs ys hg,run_neq_struct,he,Zw];rfl
theorem step_clear_part (hgd:o.guard=none) (x:Operand) (t e:TypeId) (ho:o.op=.call { callee:=.builtin .clear,args:=#[x],argTypes:=#[t] }) (hu:P.underlying t=some (.slice e)) (z:Value) (hv:∀ w,(zeroValue e).run P w=.ok z w) (hz:z.cells=#[z]) (h1:z.oneCell'=true)
    (g off n c:Nat) (hx:a.eval x=.slice (some ⟨g,off,none⟩) n c) (hn:0<n) (tt:TypeId) (A old B:List Value) (hr:Row w g tt (A++(old++B))) (ha:A.length=off) (hl:old.length=n)
    (h:∀ w',Row w' g tt (A++(List.replicate n z++B))→w.grownBy w' (some g)→wpList P ops Q rest (a.put o.dst (.tuple #[])) w'):wpList P ops Q (o::rest) a w:=by
  refine wpList_plain hgd fun K hK=>?_;have ht:=hr.is_there off n (by subst ha;simp;omega);have hrun:=Lib.run_clear_slice (P:=P) w t e o.type z hu hv hz h1 g off n c hn (fun j hj=>(ht j hj).1) (fun j hj=>(ht j hj).2);unfold Oper.wp execOp;simp only [ho,resolve,invoke,builtin,Sem.run_bind,Sem.run_pure,Zw,List.map_toArray,List.map_cons,List.map_nil,hx,hrun];exact hK _ _ (h _ (row_store hr ha (by rw [hl,List.length_replicate])) (grown_sets g _ off w))
end
def cutF (f:Nat→UInt8) (s j:Nat):UInt8:=if j<s then f j else 0
theorem brr_cut (f:Nat→UInt8) (s:Nat) (h:s≤256):brr s f++(List.replicate (256 - s) (Value.int .u8 0)++[])=brr 256 (cutF f s):=by
  apply List.ext_getElem?;intro j;rw [Zy];by_cases h1:j<s
  · rw [Zv (by rw [brr_len];exact h1),brr_get _ h1,brr_get _ (by omega)];unfold cutF;rw [if_pos h1]
  · rw [Zm (by rw [brr_len];omega),brr_len,List.getElem?_replicate];by_cases h2:j<256
    · rw [if_pos (by omega),brr_get _ h2];unfold cutF;rw [if_neg h1];rfl
    · rw [if_neg (by omega),List.getElem?_eq_none (by rw [brr_len];omega)]
theorem brr_two (f:Nat→UInt8) (s:Nat) (h:s≤256):brr 256 f=brr s f++(brr (256 - s) (fun j=>f (s+j))++[]):=by
  apply List.ext_getElem?;intro j;rw [Zy];by_cases h1:j<s
  · rw [Zv (by rw [brr_len];exact h1),brr_get _ h1,brr_get _ (by omega)]
  · rw [Zm (by rw [brr_len];omega),brr_len];by_cases h2:j<256
    · rw [brr_get _ h2,brr_get _ (by omega),show s+(j - s)=j by omega]
    · rw [List.getElem?_eq_none (by rw [brr_len];omega),List.getElem?_eq_none (by rw [brr_len];omega)]
theorem eq_brr (d n:Nat) (t:TypeId) (hu:Tryz.prog.underlying t=some (.array n 5)) (f g:Nat→UInt8) (w:World):(Op.equalIn (d+2) t (.agg (brr n f).toArray) (.agg (brr n g).toArray)).run Tryz.prog w=.ok ((List.range n).all fun j=>((f j).toNat:Int)==((g j).toNat:Int)) w:=
  run_equalIn_parts w (d+1) t 5 n 1 hu info_u8s _ _ (fun j=>.int .u8 ((f j).toNat:Int)) (fun j=>.int .u8 ((g j).toNat:Int)) (fun j=>((f j).toNat:Int)==((g j).toNat:Int))
    (fun j hj w=>by
      have h:=brr_get f hj;simp [part,isAgg,run_underlying Tryz.underlying5,h,B,bv])
    (fun j hj w=>by
      have h:=brr_get g hj;simp [part,isAgg,run_underlying Tryz.underlying5,h,B,bv])
    (fun j hj w=>run_equalIn_int (P:=Tryz.prog) w d _ .u8 .u8 _ _ Tryz.underlying5)
theorem zero_u8 (w:World):(zeroValue 5).run Tryz.prog w=.ok (.int .u8 0) w:=by kernel_rfl
theorem block_guard:Tryz.prog.eqGuardType Tryz.prog.depth 110=false:=by kernel_rfl
def sameF (f:Nat→UInt8) (s:Nat):Bool:=(List.range 256).all fun j=>((cutF f s j).toNat:Int)==((f j).toNat:Int)
theorem sameF_iff (f:Nat→UInt8) (s:Nat):sameF f s=true↔∀ j,j<256→cutF f s j=f j:=by
  unfold sameF;rw [List.all_eq_true];constructor
  · intro h j hj;have h1:=h j (List.mem_range.2 hj);rw [beq_iff_eq] at h1;exact UInt8.toNat_inj.1 (by omega)
  · intro h j hj;rw [h j (List.mem_range.1 hj)];simp
section
variable {b:Nat} {w w':World} {gd gv gm gs r:Nat} {Bs:List BV} {N n:Nat} {X:DX}
theorem dshut (z s:Nat) (f:Nat→UInt8) (h:DK b w gd gv gm gs r Bs N n X) (hc:Cont X Bs z f) (hs:1≤s∧s≤255):Calls Tryz.prog 53 #[.pointer (some ⟨gd,0,none⟩),.int .i64 (z:Int),.int .i64 (s:Int)] w (DOne b w gd gv gm gs r Bs N n X (.tuple #[.agg (brr 256 (cutF f s)).toArray,.bool (!(sameF f s))])):=by
  have i1:=Za (fun f=>info_brr f);have hz:=Za zero_block;have H:=Za h;have HC:=Za hc;have HLT:=Za h.lt;have HLO:=Za h.lo;have HS:=Za hs;obtain ⟨sm,hsm⟩:∃ sm,sameF f s=sm:=⟨_,rfl⟩;have HEQ:=Za (p:=∀ w,(Op.equalIn 10000 110 (.agg (brr 256 (cutF f s)).toArray) (.agg (brr 256 f).toArray)).run Tryz.prog w=.ok sm w) (fun w=>by rw [← hsm];exact eq_brr _ 256 _ Tryz.underlying110 _ _ w);obtain ⟨fc,hfc⟩:∃ fc,cutF f s=fc:=⟨_,rfl⟩;have HCUT:=Za (p:=brr s f++(List.replicate (256 - s) (Value.int .u8 0)++[])=brr 256 fc) (by rw [← hfc];exact brr_cut f s (by omega));have HTWO:=Za (brr_two f s (by omega));rw [hfc] at HEQ;rw [hsm,hfc];have hs3:(s:Int)≤256:=by omega
  have hs5:¬ 256=s:=by omega
  clear h hc hs hsm hfc;go_enter Tryz.func53,Tryz.ntmps53
  go_wp2_with (first
    | (refine step_alloc rfl 6 rfl 110 rfl _ hz.out ?_;intro g6 w2 hr2 hg2 hb2 hs2;have HR62:=Za hr2
       have HB2:=Za hb2;have HG6:=Za (p:=w.heap.size≤g6) (Nat.le_of_eq hg2.out.symm);have HK2:=Za (H.out.below hb2);clear hr2 hg2 hb2 hs2)
    | (go_at_call 79;refine (dcontent z f HK2.out HC.out).mono ?_;rintro e w3 ⟨rfl,hk,hc⟩;have HK3:=hk
       have HC3:=Za (p:=Chg [gd] w w3) ((Chg.of (F:=[gd]) HB2.out).trans hc.out (fun x hx=>.inl hx));have HR63:=Za (hc.out.row HR62.out (by have h1:=HLT.out;have h2:=HG6.out;simp;omega));clear hk hc)
    | (refine step_alloc rfl 8 rfl 110 rfl _ hz.out ?_;intro g8 w4 hr2 hg2 hb2 hs2;have HR84:=Za hr2
       have HK4:=Za (HK3.out.below hb2);have HC4:=Za (chg_nxt HC3.out hb2);have HR64:=Za (HR63.out.kept hb2);have HG8:=Za (p:=w.heap.size≤g8∧g6<g8) (by rw [hg2.out];exact ⟨HC3.out.size,HR63.out.lt⟩);clear hr2 hg2 hb2 hs2)
    | (refine step_store rfl 110 (.tmp 8) (.tmp 12) rfl g8 (by rfl) _ _ (brr 256 f) (by rfl) HR84.out (by rw [brr_len,brr_len]) (i1.out _) (brr_one _ _) ?_;intro w5 hr9 hg9 hs9;have HR85:=Za hr9
       have HK5:=Za (HK4.out.other HR84.out (by decide) (by have:=HLO.out;have:=HG8.out;omega) (Chg.one hg9));have HC5:=Za (p:=Chg [gd] w w5) (chg_own HC4.out HG8.out.1 (Chg.one hg9));have HR65:=Za (HR64.out.grown hg9 (fun e=>by have:=HG8.out;injection e;omega));clear hr9 hg9 hs9)
    | (refine step_load rfl 13 rfl 110 (.tmp 8) rfl g8 rfl (brr 256 f) _ HR85.out.all Tryz.underlying110 rfl (i1.out _) ?_)
    | (refine step_alloc rfl 9 rfl 110 rfl _ hz.out ?_;intro g9 w6 hr2 hg2 hb2 hs2;have HR96:=Za hr2
       have HK6:=Za (HK5.out.below hb2);have HC6:=Za (chg_nxt HC5.out hb2);have HR66:=Za (HR65.out.kept hb2);have HR86:=Za (HR85.out.kept hb2);have HG9:=Za (p:=w.heap.size≤g9∧g6<g9∧g8<g9) (by rw [hg2.out];exact ⟨HC5.out.size,HR65.out.lt,HR85.out.lt⟩);clear hr2 hg2 hb2 hs2)
    | (refine step_store rfl 110 (.tmp 9) (.tmp 13) rfl g9 (by rfl) _ _ (brr 256 f) (by rfl) HR96.out (by rw [brr_len,brr_len]) (i1.out _) (brr_one _ _) ?_;intro w7 hr9 hg9 hs9;have HR97:=Za (p:=Row w7 g9 110 (brr s f++(brr (256 - s) (fun j=>f (s+j))++[]))) (by rw [← HTWO.out];exact hr9)
       have HK7:=Za (HK6.out.other HR96.out (by decide) (by have:=HLO.out;have:=HG9.out;omega) (Chg.one hg9));have HC7:=Za (p:=Chg [gd] w w7) (chg_own HC6.out HG9.out.1 (Chg.one hg9));have HR67:=Za (HR66.out.grown hg9 (fun e=>by have:=HG9.out;injection e;omega));have HR87:=Za (HR86.out.grown hg9 (fun e=>by have:=HG9.out;injection e;omega));clear hr9 hg9 hs9)
    | (refine step_clear_part rfl (.tmp 15) _ 5 rfl Tryz.underlying23 (.int .u8 0) zero_u8 rfl rfl g9 s (256 - s) (256 - s) (by rfl) (by have:=HS.out;omega) 110 (brr s f) (brr (256 - s) (fun j=>f (s+j))) [] HR97.out (brr_len _ _) (brr_len _ _) ?_;intro w8 hr9 hg9;have HR98:=Za (p:=Row w8 g9 110 (brr 256 fc)) (by rw [← HCUT.out];exact hr9)
       have HK8:=Za (HK7.out.other HR97.out (by decide) (by have:=HLO.out;have:=HG9.out;omega) (Chg.one hg9));have HC8:=Za (p:=Chg [gd] w w8) (chg_own HC7.out HG9.out.1 (Chg.one hg9));have HR68:=Za (HR67.out.grown hg9 (fun e=>by have:=HG9.out;injection e;omega));have HR88:=Za (HR87.out.grown hg9 (fun e=>by have:=HG9.out;injection e;omega));have HS8:=Za (p:=Row w8.drew g9 110 (brr 256 fc)∧Row w8.drew g8 110 (brr 256 f)) ⟨HR98.out.drew,HR88.out.drew⟩;clear hr9 hg9))
  refine Zq (S:=fun W=>Row W g9 110 (brr 256 fc)∧Row W g8 110 (brr 256 f)) (by kernel_rfl) HS8.out (fun hHeld=>?_);refine Ze (i:=0) (oi:=⟨some 16,.load 110 (.tmp 9),_,_,_,_⟩) (v:=.agg (brr 256 fc).toArray) rfl (by kernel_rfl) (by kernel_rfl) (by kernel_rfl) (fun _ _ _ h=>h) (Yb (by rfl) 110 (.tmp 9) rfl g9 0 rfl (brr 256 fc) _ (fun w hSw=>hSw.1.all) Tryz.underlying110 rfl (i1.out _)) (by assumption) ?_;simp only [Act.put,Zb,Zc,Zd];refine Ze (i:=1) (oi:=⟨some 17,.load 110 (.tmp 9),_,_,_,_⟩) (v:=.agg (brr 256 fc).toArray) rfl (by kernel_rfl) (by kernel_rfl) (by kernel_rfl) (fun _ _ _ h=>h) (Yb (by rfl) 110 (.tmp 9) rfl g9 0 rfl (brr 256 fc) _ (fun w hSw=>hSw.1.all) Tryz.underlying110 rfl (i1.out _)) (by assumption) ?_;simp only [Act.put,Zb,Zc,Zd];refine Ze (i:=2) (oi:=⟨some 18,.load 110 (.tmp 8),_,_,_,_⟩) (v:=.agg (brr 256 f).toArray) rfl (by kernel_rfl) (by kernel_rfl) (by kernel_rfl) (fun _ _ _ h=>h) (Yb (by rfl) 110 (.tmp 8) rfl g8 0 rfl (brr 256 f) _ (fun w hSw=>hSw.2.all) Tryz.underlying110 rfl (i1.out _)) (by assumption) ?_;simp only [Act.put,Zb,Zc,Zd];refine Ze (i:=3) (oi:=⟨some 19,.binOp .neq 110 (.tmp 17) (.tmp 18) 110,_,_,_,_⟩) (v:=.bool (!sm)) rfl (by kernel_rfl) (by kernel_rfl) (by kernel_rfl) (fun _ _ _ h=>h) (.inl ⟨by rfl,fun w hSw=>run_unlike_op w _ 110 110 (.tmp 17) (.tmp 18) rfl _ _ rfl rfl block_guard sm (fun w=>HEQ.out w)⟩) (by assumption) ?_;simp only [Act.put,Zb,Zc,Zd];refine Zp (rs:=[4]) (by kernel_rfl) (by simp) ?_;refine Zl (o:=⟨none,.store 110 (.tmp 6) (.tmp 16),_,_,_,_⟩) rfl (fun K hK=>?_) Zo;refine st_store (by rfl) 110 (.tmp 6) (.tmp 16) rfl g6 (by rfl) 110 _ (brr 256 fc) (by rfl) HR68.out.drew (by rw [brr_len,brr_len]) (i1.out _) (brr_one _ _) ?_;intro w9 hr6 hg6;have HR69:=Za hr6;have HK9:=Za ((HK8.out.below (below_drw _)).other HR68.out.drew (by decide) (by have:=HLO.out;have:=HG6.out;omega) (Chg.one hg6));have HC9:=Za (p:=Chg [gd] w w9) (chg_own (chg_nxt HC8.out (below_drw _)) HG6.out (Chg.one hg6));have HS9:=Za (p:=Row w9 g9 110 (brr 256 fc)∧Row w9 g8 110 (brr 256 f)) ⟨HS8.out.1.grown hg6 (fun e=>by have:=HG9.out;injection e;omega),HS8.out.2.grown hg6 (fun e=>by have:=HG8.out;injection e;omega)⟩;clear hr6 hg6;refine hK.out _ _ HS9.out (fun _hH=>?_);clear hK K;refine Ze (i:=5) (oi:=⟨some 7,.assign (.tmp 19),_,_,_,_⟩) (v:=.bool (!sm)) rfl (by kernel_rfl) (by kernel_rfl) (by kernel_rfl) (fun _ _ _ h=>h) (.inl ⟨by rfl,fun w hSw=>by go_simp⟩) (by assumption) ?_;simp only [Act.put,Zb,Zc,Zd];refine Yg (by kernel_rfl) ?_ _;go_wp2;refine Yd (results_row_tmp rfl _ _ g6 _ _ _ _ rfl HR69.out Tryz.underlying110 rfl (by simpa using i1.out fc)) rfl ?_;exact ⟨rfl,HK9,HC9⟩
end
end Go.Proofs.YtijffkklhgnknaaGreatDoor
