/- Cut, of a file that lies on a desk. Conditions: those named. -/
import Derived.Test.YtijffkklhgnknaaGreatDoorAz
import Derived.Test.YtijffkklhgnknaaGreatDoorMgNc
import Derived.Test.YtijffkklhgnknaaGreatDoorLc
import Derived.Test.YtijffkklhgnknaaGreatDoorShelf
import Derived.Test.YtijffkklhgnknaaGreatDoorMgRa
import Derived.Lib.SlParts
import Derived.Lib.SlFresh
import Derived.RangeFuncNested
import Derived.RangeFuncBound
import Derived.RangeFuncCalls
import Derived.RangeFuncLeaves
import Derived.Shelf.Abstract
import Derived.Shelf.RegionOpen
import Derived.WalkKit
import Derived.OwnWalkIn
import Derived.TacticsInMore
import Derived.LoopNIn
import Derived.LoopIn
import Derived.Test.YtijffkklhgnknaaGreatDoorMgChg
import Derived.Test.YtijffkklhgnknaaGreatDoorMgMem
set_option maxHeartbeats 20000000
set_option linter.unusedVariables false
set_option maxRecDepth 20000
namespace Go.Proofs.YtijffkklhgnknaaGreatDoor
open Go.RowKit
section
variable {Bs:List BV}
theorem give_out (X:DX) (z:Nat) (a:Int) (h:(z:Int)≠a):seeX (X.give z) Bs a=seeX X Bs a:=by
  unfold DX.give;rw [seeX_put_ne _ _ _ _ (Ne.symm h),seeX_setS]
theorem gives_out (X:DX) (W0 R:Nat→Int) (a:Int) (hW:∀ j,j<128→0≤W0 j):∀ k,k≤128→(∀ j,j<k→R j=0→W0 j≠0→W0 j≠a)→seeX (X.gives W0 R k) Bs a=seeX X Bs a
  | 0,_,_=>rfl
  | k + 1,hk,h=>by
    have ih:=gives_out X W0 R a hW k (by omega) (fun j hj=>h j (by omega));show seeX (if R k=0∧W0 k≠0 then (X.gives W0 R k).give (W0 k).toNat else X.gives W0 R k) Bs a=_;by_cases hq:R k=0∧W0 k≠0
    · rw [if_pos hq,give_out _ _ _ (by
        have h1:=h k (by omega) hq.1 hq.2;have h2:=hW k (by omega);omega)]
      exact ih
    · rw [if_neg hq];exact ih
theorem giveL_out (X:DX) (v26 L a:Int) (h0:0≤v26) (h:v26≠a):seeX (X.giveL v26 L) Bs a=seeX X Bs a:=by
  unfold DX.giveL;by_cases hq:L=0∧v26≠0
  · rw [if_pos hq,give_out _ _ _ (by omega)]
  · rw [if_neg hq]
theorem giveL_kept (X:DX) (v26 L:Int) (h:L≠0):X.giveL v26 L=X:=by
  unfold DX.giveL;rw [if_neg (fun hq=>h hq.1)]
theorem CW.zero {X:DX} {f:Nat→UInt8} (h:CW X Bs 0 f):∀ q,q<256→f q=0:=fun q hq=>by
  obtain ⟨g,h1,h2⟩:=h;rcases h1 with ⟨_,h3⟩ | ⟨h3,_⟩
  · rw [← h2 q hq,h3]
  · exact absurd h3 (Nat.lt_irrefl 0)
theorem CW.of_zero (X:DX) {f:Nat→UInt8} (h:∀ q,q<256→f q=0):CW X Bs 0 f:=⟨fun _=>0,.inl ⟨rfl,rfl⟩,fun q hq=>(h q hq).symm⟩
end
section
variable {Bs:List BV} {X X2 X3:DX} {v v' R R2:Nat→Int} {m:Nat} {F F2:Nat→UInt8}
theorem FO.cutted (h:FO Bs X v R m F) (z e last st:Nat) (he:z≤e*256∧e*256<z+256) (hls:z=last*256+st∧st<256) (hl:last<128) (f:Nat→UInt8) (hf:∀ q,q<256→f q=F (last*256+q)) (L2:Int) (hR2:cutR R e=R2) (hL2:L2=if lsd R2=true then v 26 else 0)
    (hX2:X2=if st≠0∧sameF f st=false then ((X.gives R R2 128).giveL (v 26) L2).put (R last) (lst 256 (cutF f st)) else (X.gives R R2 128).giveL (v 26) L2) (hcut:st≠0∧sameF f st=false→R last≠0)
    (hPL:PL X2 (v 26) L2 R R2 X3) (hv':∀ j,j<16→v' (10+j)=R2 j) (hv26:v' 26=L2) (hF2:∀ i,F2 i=if i<z then F i else 0):FO Bs X3 v' R2 m F2:=by
  have hb:=h.bounds;have h26:=h.v26;have hRe:∀ j,j<e→R2 j=R j:=fun j hj=>by rw [← hR2];exact if_pos hj
  have hRo:∀ j,¬ j<e→R2 j=0:=fun j hj=>by rw [← hR2];exact if_neg hj
  have hL0:L2=0∨(L2=v 26∧L2≠0):=by
    rw [hL2];by_cases hq:lsd R2=true
    · rw [if_pos hq];by_cases h0:v 26=0
      · exact .inl h0
      · exact .inr ⟨rfl,h0⟩
    · rw [if_neg hq];exact .inl rfl
  have hg:∀ a:Int,v 26≠a→(∀ j,j<128→R2 j=0→R j≠0→R j≠a)→seeX ((X.gives R R2 128).giveL (v 26) L2) Bs a=seeX X Bs a:=fun a h1 h2=>by
    rw [giveL_out _ _ _ _ h26.1 h1,gives_out X R R2 a (fun j hj=>(hb j hj).1) 128 (Zj _) h2]
  have hne26:∀ j,j<128→R j≠0→v 26≠R j:=fun j hj h0=>by
    rcases h.list with ⟨h1,_⟩ | ⟨z',h1,_,_,_,h5⟩
    · rw [h1];exact Ne.symm h0
    · rw [h1];exact Ne.symm (h5 j hj)
  have hsee3:∀ j,j<128→R j≠0→seeX X3 Bs (R j)=seeX X2 Bs (R j):=fun j hj h0=>by
    rcases hPL with ⟨_,h2⟩ | ⟨h1,_,h2⟩
    · rw [h2]
    · rw [h2,seeX_put_ne];rcases hL0 with h3 | ⟨h3,_⟩
      · exact absurd h3 h1
      · rw [h3];exact Ne.symm (hne26 j hj h0)
  refine ⟨fun j hj=>(hv' j hj).symm,?_,fun j hj=>?_,fun i j hi hj h1 h2=>?_,h.lim⟩
  · rcases hL0 with h0 | ⟨h0,hne⟩
    · refine .inl ⟨hv26.trans h0,fun j h16 hj=>?_⟩;by_cases hq:lsd R2=true
      · rw [if_pos hq] at hL2;have hv0:v 26=0:=hL2.symm.trans h0;rcases h.list with ⟨_,h2⟩ | ⟨z',h2,h3,_⟩
        · by_cases hje:j<e
          · rw [hRe j hje];exact h2 j h16 hj
          · exact hRo j hje
        · exfalso;rw [h2] at hv0;have:z'=0:=Int.ofNat.inj hv0;rw [this] at h3;exact Nat.lt_irrefl 0 h3
      · by_cases h0:R2 j=0
        · exact h0
        · exact absurd ((lsd_iff R2).2 ⟨j - 16,by clear hL2 hX2 hPL hg;omega,by rw [show 16+(j - 16)=j by clear hL2 hX2 hPL hg;omega];exact h0⟩) hq
    · rcases h.list with ⟨h1,_⟩ | ⟨z',h1,h2,h3,h4,h5⟩
      · exact absurd (h0.trans h1) hne
      · refine .inr ⟨z',by rw [hv26,h0,h1],h2,h3,?_,fun j hj=>?_⟩
        · have hno :∀ j,j<128→R j≠(z':Int):=h5;rcases hPL with ⟨h6,h7⟩ | ⟨_,_,h7⟩
          · rcases h6 with h6 | ⟨_,h6⟩
            · exact absurd h6 hne
            · have h8:seeX X2 Bs (z':Int)=seeX X Bs (z':Int):=by
                have h9:seeX ((X.gives R R2 128).giveL (v 26) L2) Bs (z':Int)=seeX X Bs (z':Int):=by
                  rw [giveL_kept _ _ _ hne,gives_out X R R2 _ (fun j hj=>(hb j hj).1) 128 (Zj _) (fun j hj _ _=>hno j hj)]
                rw [hX2];by_cases hq:st≠0∧sameF f st=false
                · rw [if_pos hq,seeX_put_ne _ _ _ _ (Ne.symm (hno last hl))];exact h9
                · rw [if_neg hq];exact h9
              rw [h7,h8,h4];exact congrArg some (blk_s2 (fun j hj=>(h6 j hj).symm))
          · rw [h7,h0,h1];exact seeX_put _ _ _
        · by_cases hje:j<e
          · rw [hRe j hje];exact h5 j hj
          · rw [hRo j hje];intro h9;have:z'=0:=(Int.ofNat.inj h9).symm;rw [this] at h2;exact Nat.lt_irrefl 0 h2
  · obtain ⟨z0,hz0,hz1,hw⟩:=h.cont j hj;by_cases hje:j<e
    · by_cases h00:z0=0
      · subst h00;refine ⟨0,by rw [hRe j hje];exact hz0,hz1,CW.of_zero _ (fun q hq=>?_)⟩;rw [hF2,hw.zero q hq];exact ite_self _
      · have hne:R j≠0:=by rw [hz0];clear hL2 hX2 hPL hg;omega
        refine ⟨z0,by rw [hRe j hje];exact hz0,hz1,?_⟩;have hz256:z0<256:=Yc hz1 h.lim
        have hkeep:seeX ((X.gives R R2 128).giveL (v 26) L2) Bs (R j)=seeX X Bs (R j):=hg (R j) (hne26 j hj hne) (fun i hi h1 h2 h3=>by
          have h4:=h.inj i j hi hj h3 h2;rw [h4,hRe j hje] at h1;exact hne h1)
        by_cases hq:st≠0∧sameF f st=false
        · rw [if_pos hq] at hX2;by_cases hjl:j=last
          · subst hjl;refine CW.at ⟨Nat.pos_of_ne_zero h00,hz256⟩ (g:=cutF f st) ?_ (fun q hq2=>?_)
            · rw [← hz0,hsee3 j hj hne,hX2];exact seeX_put _ _ _
            · unfold cutF;rw [hF2];by_cases hqs:q<st
              · rw [if_pos hqs,if_pos (by clear hL2 hX2 hPL hg;omega),hf q hq2]
              · rw [if_neg hqs,if_neg (by clear hL2 hX2 hPL hg;omega)]
          · have hjlt:j<last:=by clear hL2 hX2 hPL hg;omega
            obtain ⟨g,hg1,hg2⟩:=hw
            refine CW.congr (X:=X) ⟨g,hg1,fun q hq2=>by
              rw [hg2 q hq2];show F (j*256+q)=F2 (j*256+q);rw [hF2,if_pos (by clear hL2 hX2 hPL hg;omega)]⟩ (fun _=>?_)
            rw [← hz0,hsee3 j hj hne,hX2,seeX_put_ne _ _ _ _ (fun h1=>hjl (h.inj j last hj hl h1 hne))];exact hkeep
        · rw [if_neg hq] at hX2;obtain ⟨g,hg1,hg2⟩:=hw;refine CW.congr (X:=X) ⟨g,hg1,fun q hq2=>?_⟩ (fun _=>by rw [← hz0,hsee3 j hj hne,hX2];exact hkeep);rw [hg2 q hq2];show F (j*256+q)=F2 (j*256+q);rw [hF2];by_cases hiz:j*256+q<z
          · rw [if_pos hiz]
          · rw [if_neg hiz];have hjl:j=last:=by clear hL2 hX2 hPL hg;omega
            have hst:st≠0:=by clear hL2 hX2 hPL hg;omega
            subst hjl
            have hsm:sameF f st=true:=by
              cases hs:sameF f st with
              | true=>rfl
              | false=>exact absurd ⟨hst,hs⟩ hq
            have h1:=(sameF_iff f st).1 hsm q hq2;rw [← hf q hq2, ← h1];unfold cutF;rw [if_neg (by clear hL2 hX2 hPL hg;omega)]
    · refine ⟨0,hRo j hje,by clear hL2 hX2 hPL hg;omega,CW.of_zero _ (fun q hq=>?_)⟩;rw [hF2,if_neg (by clear hL2 hX2 hPL hg;omega)]
  · by_cases hie:i<e
    · by_cases hje:j<e
      · rw [hRe i hie,hRe j hje] at h1;rw [hRe i hie] at h2;exact h.inj i j hi hj h1 h2
      · rw [hRo j hje] at h1;exact absurd h1 h2
    · exact absurd (hRo i hie) h2
end
/- Cut,of a file that lies on a desk,called. Conditions:those named. -/
section
variable {b:Nat} {w w':World} {gd gv gm gs r:Nat} {Bs:List BV} {N n m:Nat} {X:DX} {v R:Nat→Int} {F F2:Nat→UInt8}
def WasCut (b:Nat) (w:World) (gd gv gm gs r:Nat) (Bs:List BV) (N n m z:Nat) (F2:Nat→UInt8) (ee:Ending) (w':World):Prop:=
  ∃ (v2 R2:Nat→Int) (X2:DX),ee=.returned (.agg (ncs v2).toArray)∧Hid (FO Bs X2 v2 R2 m F2)∧Hid (X2.rd=true)∧Hid (v2 5=(z:Int))∧Hid ((∀ j,z≤j*256→R2 j=0)∧(v2 26=0∨lsd R2=true))∧Hid (DK b w' gd gv gm gs r Bs N (n+131) X2)∧Hid (Chg [gd,gm] w w')
theorem FO.cut (h:FO Bs X v R m F) (hrd:X.rd=true) (z:Nat) (hz:z≤32512) (hn:n+131≤3000) (hk:DK b w gd gv gm gs r Bs N n X) (hF2:∀ i,F2 i=if i<z then F i else 0):
    Calls Tryz.prog 21 #[.pointer (some ⟨gd,0,none⟩),.agg (ncs v).toArray,.int .i64 (z:Int)] w (WasCut b w gd gv gm gs r Bs N n m z F2):=by
  obtain ⟨last,hlast⟩:∃ last,z / 256=last:=⟨_,rfl⟩;obtain ⟨st,hst⟩:∃ st,z % 256=st:=⟨_,rfl⟩;obtain ⟨e,he0⟩:∃ e,(z+255) / 256=e:=⟨_,rfl⟩;have hls:z=last*256+st∧st<256:=by omega
  have he:z≤e*256∧e*256<z+256:=by omega
  have hl:last<128:=by omega
  clear hlast hst he0;obtain ⟨zl,hzl,_,f,hf1,hf2⟩:=h.cont last hl;obtain ⟨R2,hR2⟩:∃ R2,cutR R e=R2:=⟨_,rfl⟩;obtain ⟨L2,hL2⟩:∃ L2,(if lsd R2=true then v 26 else 0)=L2:=⟨_,rfl⟩;obtain ⟨X2,hX2⟩:∃ X2,(if st≠0∧sameF f st=false then ((X.gives R R2 128).giveL (v 26) L2).put (R last) (lst 256 (cutF f st)) else (X.gives R R2 128).giveL (v 26) L2)=X2:=⟨_,rfl⟩
  have hgr:∀ k,(X.gives R R2 k).rd=X.rd:=fun k=>by
    induction k with
    | zero=>rfl
    | succ k ih=>
      show (if R2 k=0∧R k≠0 then (X.gives R R2 k).give (R k).toNat else X.gives R R2 k).rd=_
      split
      · exact ih
      · exact ih
  have hX2r:X2.rd=true:=by
    rw [← hX2, ← hrd, ← hgr 128]
    have h1:((X.gives R R2 128).giveL (v 26) L2).rd=(X.gives R R2 128).rd:=by
      unfold DX.giveL
      split <;> rfl
    split
    · exact h1
    · exact h1
  have hPLx:∃ X3,PL X2 (v 26) L2 R R2 X3∧X3.rd=X2.rd:=by
    by_cases hp:L2=0∨(L2=v 26∧∀ j,j<112→R2 (16+j)=R (16+j))
    · exact ⟨X2,.inl ⟨hp,rfl⟩,rfl⟩
    · refine ⟨X2.put L2 (blk s2 (fun j=>R2 (16+j)) 112),.inr ⟨fun h=>hp (.inl h),?_,rfl⟩,rfl⟩;by_cases h1:L2=v 26
      · exact .inr (fun h2=>hp (.inr ⟨h1,h2⟩))
      · exact .inl h1
  obtain ⟨X3,hPL,hX3r⟩:=hPLx;have hg128:=gvs_le R R2 128;have hgl:gvL (v 26) L2≤1:=by unfold gvL;split <;> decide
  have hcut:st≠0∧sameF f st=false→R last≠0:=fun hq h0=>by
    have hz0:zl=0:=Int.ofNat.inj (hzl.symm.trans h0);rcases hf1 with ⟨_,h1⟩ | ⟨h1,_⟩
    · have h2:sameF f st=true:=(sameF_iff f st).2 (fun j _=>by rw [h1];exact ite_self _);rw [h2] at hq;cases hq.2
    · rw [hz0] at h1;exact Nat.lt_irrefl 0 h1
  have hn2:n+gvs R R2 128+gvL (v 26) L2+2≤3000:=by clear hL2 hX2 hPL;omega
  have hn3:n+gvs R R2 128+gvL (v 26) L2+2≤n+131:=by clear hL2 hX2 hPL;omega
  have hw:=dcut (X':=X) (X2:=X2) (X3:=X3) v R R2 z e last st f L2 hk (.inl ⟨hrd,rfl⟩) hR2 hn2 hz he hls (h.row 128 (by decide)) h.bounds h.v26 hL2.symm (fun _=>⟨zl,hzl,hf1⟩) hX2.symm hPL;refine hw.mono ?_;rintro ee w' ⟨rfl,hk2,hc2⟩;refine ⟨_,R2,X3,rfl,Za ?_,Za (hX3r.trans hX2r),Za rfl,Za ⟨fun j hj=>?_,?_⟩,Za (hk2.out.mono hn3),hc2⟩
  · refine h.cutted z e last st he hls hl f hf2 L2 hR2 hL2.symm hX2.symm hcut hPL (fun j hj=>?_) rfl hF2;unfold toldV;rw [if_neg (by clear hL2 hX2 hPL;omega),if_neg (by clear hL2 hX2 hPL;omega),if_pos (by clear hL2 hX2 hPL;omega),show 10+j - 10=j by clear hL2 hX2 hPL;omega]
  · rw [← hR2];exact if_neg (by clear hL2 hX2 hPL;omega)
  · by_cases hq:lsd R2=true
    · exact .inr hq
    · refine .inl ?_;show L2=0;rw [← hL2,if_neg hq]
end
/- The empty file;Write of no bytes;a whole file read;how many slots a file takes. Conditions:those named. -/
section
variable {b:Nat} {w w':World} {gd gv gm gs r:Nat} {Bs:List BV} {N n m:Nat} {X:DX} {v R:Nat→Int} {F:Nat→UInt8}
theorem dwrite_none (v:Nat→Int) (A:Option Addr) (c:Nat) (off:Int) (h:DK b w gd gv gm gs r Bs N n X) (hn:n≤3000):Calls Tryz.prog 20 #[.pointer (some ⟨gd,0,none⟩),.agg (ncs v).toArray,.int .i64 off,.slice A 0 c] w (DOne b w gd gv gm gs r Bs N n X (.agg (ncs v).toArray)):=by
  have HBG:=Za (hbegin h hn);have HLT:=Za h.lt;have HLO:=Za h.lo;have i2:=Za (fun v=>info_ncs v);have hzi:=Za zero_ino;clear h hn;go_enter Tryz.func20,Tryz.ntmps20
  go_wp2_with (first
    | (refine step_box rfl 5 rfl 43 (.tmp 1) rfl (ncs v) rfl ?_;intro g5 w2 hr2 hg2 hb2 hs2;have HR52:=Za hr2
       have HB2:=Za hb2;have HG5:=Za (p:=w.heap.size≤g5) (Nat.le_of_eq hg2.out.symm);clear hr2 hg2 hb2 hs2)
    | (refine step_alloc rfl 8 rfl 43 rfl _ hzi.out ?_;intro g8 w3 hr3 hg3 hb3 hs3;have HR83:=Za hr3
       have HR53:=Za (HR52.out.kept hb3);have HB3:=Za (below_nxt hb3 HB2.out);have HG8:=Za (p:=w.heap.size≤g8∧g5<g8) (by rw [hg3.out];exact ⟨HB2.out.size,HR52.out.lt⟩);clear hr3 hg3 hb3 hs3)
    | (go_at_call 27;refine (HBG.out _ HB3.out).mono ?_;rintro e w4 ⟨rfl,hk,hc⟩;have HK4:=hk
       have HC4:=Za (p:=Chg [gd] w w4) ((Chg.of (F:=[gd]) HB3.out).trans hc.out (fun x hx=>.inl hx));have HR54:=Za (hc.out.row HR53.out (by have h1:=HLT.out;have h2:=HG5.out;simp;omega));have HR84:=Za (hc.out.row HR83.out (by have h1:=HLT.out;have h2:=HG8.out;simp;omega));clear hk hc)
    | (refine step_load rfl 28 rfl 43 (.tmp 5) rfl g5 rfl (ncs v) _ HR54.out.all Yh rfl (i2.out _) ?_)
    | (refine step_store rfl 43 (.tmp 8) (.tmp 28) rfl g8 rfl _ _ (ncs v) rfl HR84.out rfl (i2.out _) (ncs_one _) ?_;intro w9 hr9 hg9 hs9;have HR9:=Za hr9
       have HK9:=Za (HK4.out.other HR84.out (by decide) (by have:=HLO.out;have:=HG8.out;omega) (Chg.one hg9));have HC9:=Za (p:=Chg [gd] w w9) (chg_own HC4.out HG8.out.1 (Chg.one hg9));clear hr9 hg9 hs9))
  refine Yd (results_cell_row rfl _ _ g8 _ _ _ _ rfl HR9.out Yh rfl (by simpa using i2.out _)) rfl ?_;exact ⟨rfl,HK9,HC9⟩
theorem FO.all (h:FO Bs X v R m F) (count sz:Nat) (hk:DK b w gd gv gm gs r Bs N n X) (hn:n≤3000) (hsz:v 5=(sz:Int)) (hsz2:sz≤32768) (hcount:1≤count∧count≤32768):
    Calls Tryz.prog 38 #[.pointer (some ⟨gd,0,none⟩),.agg (ncs v).toArray,.int .i64 0,.int .i64 (count:Int)] w (DSee b w gd gv gm gs r Bs N n X (lst (min count sz) F)):=by
  by_cases h0:sz=0
  · have h1:=dread_nil v 0 count hk hn sz hsz hsz2 (by omega);have e:lst (min count sz) F=[]:=by rw [h0,Nat.min_zero];rfl
    rw [e];exact h1
  · have h1:=h.read 0 count (min count sz) sz hk hn hsz hsz2 hcount.2 (by omega) (by rw [Nat.sub_zero]) (Nat.le_min.2 ⟨hcount.1,by omega⟩);have e:(fun i=>F (0+i))=F:=by funext i;rw [Nat.zero_add]
    rw [e] at h1;exact h1
theorem FO.takes (h:FO Bs X v R m F) (hk:DK b w gd gv gm gs r Bs N n X) (hn:n≤3000):Calls Tryz.prog 19 #[.pointer (some ⟨gd,0,none⟩),.agg (ncs v).toArray] w (DOne b w gd gv gm gs r Bs N n X (.int .i64 (tks R:Int))):=dtakes v R hk hn (h.row 128 (by decide))
end
/- A file on a desk:written with any bytes,none too;got and written as the laws do. Conditions:those named. -/
section
variable {b:Nat} {w w':World} {gd gv gm gs r:Nat} {Bs:List BV} {N n m:Nat} {X:DX} {v R:Nat→Int} {F F2:Nat→UInt8}
theorem FO.write_any (h:FO Bs X v R m F) (s:Nat) (si:Nat→Int) (oo:Nat→Bool) (hS:X.S=supU s si oo m) (hrd:X.rd=true) (hm1:1≤m) (A:Option Addr) (c off:Nat) (l:L8) (hlc:l.length≤c) (ho:off+l.length≤32768) (hn:n+130≤2999) (hN:N≤256) (q:Nat) (hq:l.length+255≤256*q) (hroom:m+q+2≤N)
    (hk:DK b w gd gv gm gs r Bs N n X) (hD:∀ W,Chg [gd,gm] w W→Hol W A l) (hF2:∀ i,F2 i=if off≤i∧i<off+l.length then l.getD (i - off) 0 else F i) (sz sz2:Nat) (hsz:v 5=(sz:Int)) (hsz2:sz2=if l.length=0 then sz else max sz (off+l.length)):
    Calls Tryz.prog 20 #[.pointer (some ⟨gd,0,none⟩),.agg (ncs v).toArray,.int .i64 (off:Int),.slice A l.length c] w (Wrote b w gd gv gm gs r Bs N n m q s si oo F2 (sz2:Int)):=by
  by_cases h0:l.length=0
  · have hF:F2=F:=by
      funext i;rw [hF2,if_neg (by omega)]
    rw [h0] at hsz2 ⊢;rw [if_pos rfl] at hsz2;refine (dwrite_none v A c (off:Int) hk (by omega)).mono ?_;rintro e w' ⟨rfl,hk2,hc2⟩;exact ⟨v,R,m,X,rfl,Za (hF ▸ h),Za ⟨hS,hrd,Zj _,by omega⟩,Za (by rw [hsz,hsz2]),Za (hk2.out.mono (by omega)),Za (hc2.out.wider (fun x hx=>.inl (by simp at hx ⊢;exact .inl hx)))⟩
  · rw [if_neg h0] at hsz2;refine h.write s si oo hS hrd hm1 A c off l (by omega) hlc ho hn hN q hq hroom hk hD hF2 _ ?_;rw [hsz,hsz2];by_cases hg:sz<off+l.length
    · rw [if_pos (by omega),Nat.max_eq_right (by omega)]
    · rw [if_neg (by omega),Nat.max_eq_left (by omega)]
theorem FO.whole (h:FO Bs X v R m F) (count sz:Nat) (hk:DK b w gd gv gm gs r Bs N n X) (hn:n≤3000) (hsz:v 5=(sz:Int)) (hsz2:sz≤count) (hcount:1≤count∧count≤32768):
    Calls Tryz.prog 38 #[.pointer (some ⟨gd,0,none⟩),.agg (ncs v).toArray,.int .i64 0,.int .i64 (count:Int)] w fun e w'=>∃ YA yc,e=.returned (.slice YA sz yc)∧Hid (Own8 w.heap.size w' ⟨YA,yc,lst sz F⟩)∧Hid (DK b w' gd gv gm gs r Bs N n X)∧Hid (Chg [gd] w w'):=by
  refine (h.all count sz hk hn hsz (by omega) hcount).mono ?_;rintro e w' ⟨⟨YA,yc,yl⟩,rfl,hy,ho,hk2,hc2⟩
  have h1:yl=lst sz F:=by
    have h2:=hy.out;rw [Nat.min_eq_right hsz2] at h2;exact h2
  subst h1;refine ⟨YA,yc,?_,ho,hk2,hc2⟩;show Ending.returned (.slice YA (lst sz F).length yc)=_;rw [lst_len]
end
structure FS (b:Nat) (w W:World) (gd gv gm gs r pr gn:Nat) (Bs:List BV) (n:Nat) (X:DX) (v:Nat→Int) (x:Value):Prop where
  dk:DK b W gd gv gm gs r Bs 64 n X
  chg:Chg [gm,pr] w W
  row:Row W gn 43 (ncs v)
  prr:Row W pr 4 [x]
  lo:w.heap.size≤gd∧gd<gn∧gm<w.heap.size∧pr<w.heap.size∧pr≠gm∧b≤w.heap.size∧b≤pr∧b≤gm
section
variable {b:Nat} {w W W':World} {gd gv gm gs r pr gn:Nat} {Bs:List BV} {n n':Nat} {X X':DX} {v v':Nat→Int} {x x':Value}
theorem FS.call {G:List Nat} (h:FS b w W gd gv gm gs r pr gn Bs n X v x) (hk:DK b W' gd gv gm gs r Bs 64 n' X') (hc:Chg G W W') (hG:∀ y ∈ G,y=gd∨y=gm):FS b w W' gd gv gm gs r pr gn Bs n' X' v x:=by
  have hl:=h.lo;refine ⟨hk,h.chg.trans hc (fun y hy=>?_),hc.row h.row (fun hy=>?_),hc.row h.prr (fun hy=>?_),hl⟩
  · rcases hG y hy with rfl | rfl
    · exact .inr hl.1
    · exact .inl (by simp)
  · have:=hG _ hy;omega
  · have:=hG _ hy;omega
theorem FS.set (h:FS b w W gd gv gm gs r pr gn Bs n X v x) (hr:Row W' gn 43 (ncs v')) (hg:W.grownBy W' (some gn)):FS b w W' gd gv gm gs r pr gn Bs n X v' x:=by
  have hl:=h.lo;refine ⟨h.dk.other h.row (by decide) (by omega) (Chg.one hg),h.chg.trans (Chg.one hg) (fun y hy=>.inr (by simp at hy;omega)),hr,(Chg.one hg).row h.prr (by simp;omega),hl⟩
theorem FS.put (h:FS b w W gd gv gm gs r pr gn Bs n X v x) (x':Value):FS b w (W.setCell ⟨pr,0,none⟩ x') gd gv gm gs r pr gn Bs n X v x':=by
  have hl:=h.lo;have hc:Chg [pr] W (W.setCell ⟨pr,0,none⟩ x'):=(Chg.refl [pr] W).setCell (p:=⟨pr,0,none⟩) (.inl (by simp)) _;exact ⟨h.dk.other h.prr (by decide) hl.2.2.2.2.2.2.1 hc,h.chg.trans hc (fun y hy=>.inl (by simp at hy ⊢;exact .inr hy)),hc.row h.row (by simp;omega),h.prr.put 0 x',hl⟩
theorem FS.base (h:FS b w W gd gv gm gs r pr gn Bs n X v x) {g:Nat} {t:TypeId} {cs:List Value} (hr:Row w g t cs) (hne:g≠gm∧g≠pr):Row W g t cs:=h.chg.row hr (by simp;exact hne)
theorem FS.data (h:FS b w W gd gv gm gs r pr gn Bs n X v x) {A:Option Addr} {l:L8} (hD:HolB b w A l):Hol W A l:=Chg.hol hD.1 h.chg (fun g o e hne hx=>by
  have hl:=h.lo;have h1:=(hD.2.resolve_left hne) _ e;simp at h1 hx;omega)
end
/- A directory's inode,made;its file,whose slots stand in a row;cut. Conditions:those named. -/
def vF2 (k:Nat):Int:=if k=0 then 2 else if k=4 then 1 else 0
def vA2 (s:Nat):Nat→Int:=at1 vF2 6 (s:Int)
theorem built_file2:Tryz.prog.built 43 [(0,.int .i64 2),(4,.int .i64 1)]=some (ncs vF2).toArray:=by kernel_rfl
theorem vA_ne2 (s:Nat) {k:Nat} (h:k≠6):vA2 s k=vF2 k:=at1_other _ _ h
theorem vA_may2 (s:Nat) (h:s≠0):mayB (vA2 s)=true:=by
  rw [mayB_iff];refine ⟨by rw [vA_ne2 s (by decide)];decide,by rw [vA_ne2 s (by decide)];decide,by rw [vA_ne2 s (by decide)];decide,by rw [vA_ne2 s (by decide)];decide,?_,by rw [vA_ne2 s (by decide)];decide,fun j hj=>?_,by rw [vA_ne2 s (by decide)];decide⟩
  · show (s:Int)≠0;omega
  · have e:vA2 s (10+j)=0:=by
      unfold vA2;rw [at1_other _ _ (by omega)];unfold vF2;rw [if_neg (by omega),if_neg (by omega)]
    rw [e];omega
theorem vA_wf2 (s:Nat) (h:s<18446744073709551616):Wf (vA2 s):=by
  refine ⟨fun k hk=>?_,?_⟩
  · unfold kd at hk
    split at hk
    · rename_i h1
      rcases h1 with rfl | rfl | rfl | rfl <;> (rw [vA_ne2 s (by decide)];decide)
    · split at hk <;> cases hk
  · show 0≤(s:Int)∧(s:Int)<18446744073709551616;omega
def XA2 (X:DX):DX:=((X.loaded supN).setS (supU 2 iA oA 2)).put 1 (blk sz (vA2 1) 27)
theorem rowD_zero2 (s j:Nat):rowD (vA2 s) j=0:=by
  unfold rowD
  split
  · rw [vA_ne2 s (by omega)];unfold vF2;rw [if_neg (by omega),if_neg (by omega)]
  · rfl
section
variable {b:Nat} {w w':World} {gd gv gm gs r:Nat} {Bs:List BV} {N n:Nat} {X X':DX}
theorem fmake2 (h : DK b w gd gv gm gs r Bs N n X) (hrd : X.rd = false) (l : L8) (hl : seeX X Bs 0 = some l) (hz : l = List.replicate 256 0) (hn:n≤3000) (hN:2≤N):Calls Tryz.prog 11 #[.pointer (some ⟨gd,0,none⟩),.agg (ncs vF2).toArray] w
    fun e w'=>e=.returned (.tuple #[.agg (rfc 1 1).toArray,.int .i64 0])∧Hid (DK b w' gd gv gm gs r Bs N (n+1) (XA2 X))∧Hid (Chg [gd,gm] w w'):=by
  have hln:norm l=List.replicate 256 0:=by rw [hz];exact norm_256 (by simp)
  have h1 := dmake_ok (X' := X.loaded supN) vF2 h (.inr ⟨hrd, l, supN, hl, by rw [hz]; simp, .inl ⟨zeros_not _ hln, rfl⟩, rfl⟩) hn ((supN.setU 1 true).setI 1 1) 1 1 1 (by decide) (by decide) ⟨rfl,rfl⟩ (by decide)
    (fun W => add_ok supN (N : Int) 0 1 (by decide) rfl (fun j hj => by omega) (by decide) (by omega) rfl (fun j hj => by have:j=0:=by omega
                                                                                                                          subst this;rfl) W) (vA2 1) rfl (vA_may2 1 (by decide)) (vA_wf2 1 (by decide))
  rw [super_first] at h1;exact h1
theorem fget2 (h:DK b w gd gv gm gs r Bs N n (XA2 X)) (hn:n≤3000):Calls Tryz.prog 12 #[.pointer (some ⟨gd,0,none⟩),.agg (rfc 1 1).toArray] w (DOne b w gd gv gm gs r Bs N n (XA2 X) (.tuple #[.agg (ncs (vA2 1)).toArray,.int .i64 0])):=by
  have hb:(blk sz (vA2 1) 27).length=256:=blk_len _ _ _ (by decide);exact dget_ok 1 1 (by decide) h (.inl ⟨rfl,rfl⟩) hn 1 rfl (by decide) (blk sz (vA2 1) 27) (seeX_put _ 1 _) (by rw [hb];decide) (vA2 1) (by rw [norm_256 hb];exact iV_blk _ (vA_may2 1 (by decide)) (vA_wf2 1 (by decide))) rfl
end
section
variable {b:Nat} {w w':World} {gd gv gm gs r:Nat} {Bs:List BV} {N n m k:Nat} {X:DX} {v R:Nat→Int} {F F2:Nat→UInt8}
theorem fo_empty2 (Bs:List BV) (X:DX) (s:Nat):FO Bs X (vA2 s) (rowD (vA2 s)) 2 (fun _=>0):=by
  have hz:∀ j,rowD (vA2 s) j=0:=rowD_zero2 s;refine ⟨fun j hj=>by unfold rowD;rw [if_pos hj],.inl ⟨?_,fun j _ _=>hz j⟩,fun j _=>⟨0,hz j,by decide,CW.of_zero _ (fun _ _=>rfl)⟩,fun i j _ _ _ h=>absurd (hz i) h,by decide⟩;rw [vA_ne2 s (by decide)];decide
theorem FO.lower (h:FO Bs X v R m F) (m':Nat) (hm:m'≤256) (hR:∀ j,j<128→R j<(m':Int)) (h26:v 26=0):FO Bs X v R m' F:=by
  refine ⟨h.dir,?_,fun j hj=>?_,h.inj,hm⟩
  · rcases h.list with h1 | ⟨z,h1,h2,_⟩
    · exact .inl h1
    · omega
  · obtain ⟨z,h1,_,h3⟩:=h.cont j hj;exact ⟨z,h1,by have:=hR j hj;omega,h3⟩
structure DF (Bs:List BV) (X:DX) (v R:Nat→Int) (k:Nat) (F:Nat→UInt8):Prop where
  fo:FO Bs X v R (2+k) F
  row:∀ j,j<128→R j=if j<k then ((2+j:Nat):Int) else 0
  v26:v 26=0
  size:v 5=((k*256:Nat):Int)
  S:X.S=supU 2 iA oA (2+k)
  rd:X.rd=true
  lim:k≤16
theorem DF.lsd_no (h:DF Bs X v R k F):lsd R=false:=by
  by_cases hq:lsd R=true
  · obtain ⟨j,hj,hne⟩:=(lsd_iff R).1 hq;have h1:=h.row (16+j) (by omega);rw [if_neg (by have:=h.lim;omega)] at h1;exact absurd h1 hne
  · exact Bool.eq_false_iff.2 hq
theorem DF.tks (h:DF Bs X v R k F):tks R=k:=by
  have h1:∀ q,q≤128→cnz R q=min q k:=fun q=>by
    induction q with
    | zero=>exact fun _=>(Nat.zero_min k).symm
    | succ q ih=>
      intro hq;have h2:=h.row q (by omega);show cnz R q+(if R q=0 then 0 else 1)=_;rw [ih (by omega)];by_cases hk:q<k
      · rw [if_pos hk] at h2;rw [if_neg (by rw [h2];omega)];omega
      · rw [if_neg hk] at h2;rw [if_pos h2];omega
  unfold Go.Proofs.YtijffkklhgnknaaGreatDoor.tks;rw [h1 128 (Zj _),h.lsd_no];have:=h.lim;simp;omega
theorem gives_S (h:DF Bs X v R k F) (k':Nat) (hk':k'≤k):∀ q,q≤128→(X.gives R (cutR R k') q).S=⟨2,fun i=>decide (i<2+k) && !(decide (2+k'≤i∧i<2+q)),iA,oA⟩
  | 0,_=>by
    show X.S=_;rw [h.S];unfold supU;congr 1;funext i;have:¬ (2+k'≤i∧i<2+0):=by omega
    simp [this]
  | q + 1, hq=>by
    have ih:=gives_S h k' hk' q (by omega);have h2:=h.row q (by omega);show (if cutR R k' q=0∧R q≠0 then (X.gives R (cutR R k') q).give (R q).toNat else X.gives R (cutR R k') q).S=_;by_cases hqk:k'≤q∧q<k
    · rw [if_pos hqk.2] at h2;have hc:cutR R k' q=0:=if_neg (by omega);rw [if_pos ⟨hc,by rw [h2];omega⟩];show ((X.gives R (cutR R k') q).S.setU (R q).toNat false)=_;rw [ih,h2];have e:(((2+q:Nat):Int)).toNat=2+q:=by omega
      rw [e];unfold Sup.setU;congr 1;funext i;unfold at1;by_cases hi:i=2+q
      · rw [if_pos hi];have:2+k'≤i∧i<2+(q+1):=by omega
        simp [this]
      · rw [if_neg hi];have:(2+k'≤i∧i<2+q)↔(2+k'≤i∧i<2+(q+1)):=by omega
        simp only [this]
    · have hno:¬ (cutR R k' q=0∧R q≠0):=by
        intro ⟨h3,h4⟩;by_cases hk:q<k
        · have hq2:q<k':=by omega
          have:cutR R k' q=R q:=if_pos hq2;rw [this] at h3;exact h4 h3
        · rw [if_neg hk] at h2;exact h4 h2
      rw [if_neg hno,ih];congr 1;funext i;by_cases hi:i<2+k
      · have:(2+k'≤i∧i<2+q)↔(2+k'≤i∧i<2+(q+1)):=by omega
        simp only [this]
      · simp [hi]
theorem DF.cut (h:DF Bs X v R k F) (k' z:Nat) (hz:k'*256=z) (hk':k'≤k) (hn:n+131≤3000) (hk:DK b w gd gv gm gs r Bs N n X) (hF2:∀ i,F2 i=if i<z then F i else 0):
    Calls Tryz.prog 21 #[.pointer (some ⟨gd,0,none⟩),.agg (ncs v).toArray,.int .i64 (z:Int)] w fun ee w'=>∃ (v2 R2:Nat→Int) (X2:DX),ee=.returned (.agg (ncs v2).toArray)∧Hid (DF Bs X2 v2 R2 k' F2)∧Hid (DK b w' gd gv gm gs r Bs N (n+131) X2)∧Hid (Chg [gd,gm] w w'):=by
  have hlim:=h.lim;obtain ⟨zl,hzl,_,f,hf1,hf2⟩:=h.fo.cont k' (by omega);obtain ⟨R2,hR2⟩:∃ R2,cutR R k'=R2:=⟨_,rfl⟩;have hL2:(if lsd R2=true then v 26 else 0)=0:=by rw [h.v26];split <;> rfl
  obtain ⟨X2,hXX⟩:∃ X2,X.gives R R2 128=X2:=⟨_,rfl⟩
  have hX2:(if (0:Nat)≠0∧sameF f 0=false then ((X.gives R R2 128).giveL (v 26) 0).put (R k') (lst 256 (cutF f 0)) else (X.gives R R2 128).giveL (v 26) 0)=X2:=by
    rw [if_neg (fun hq=>hq.1 rfl)];unfold DX.giveL;rw [if_neg (fun hq=>hq.2 h.v26)];exact hXX
  have hgr:∀ q,(X.gives R R2 q).rd=X.rd:=fun q=>by
    induction q with
    | zero=>rfl
    | succ q ih=>
      show (if R2 q=0∧R q≠0 then (X.gives R R2 q).give (R q).toNat else X.gives R R2 q).rd=_
      split
      · exact ih
      · exact ih
  have hg128:=gvs_le R R2 128;have hgl:gvL (v 26) 0≤1:=by unfold gvL;split <;> decide
  have he:z≤k'*256∧k'*256<z+256:=by omega
  have hls:z=k'*256+0∧0<256:=by omega
  have hPL:PL X2 (v 26) 0 R R2 X2:=.inl ⟨.inl rfl,rfl⟩;have hw:=dcut (X':=X) (X2:=X2) (X3:=X2) v R R2 z k' k' 0 f 0 hk (.inl ⟨h.rd,rfl⟩) hR2 (by omega) (by omega) he hls (h.fo.row 128 (by decide)) h.fo.bounds h.fo.v26 hL2.symm (fun _=>⟨zl,hzl,hf1⟩) hX2.symm hPL;refine hw.mono ?_;rintro ee w' ⟨rfl,hk2,hc2⟩
  have hrow2:∀ j,j<128→R2 j=if j<k' then ((2+j:Nat):Int) else 0:=fun j hj=>by
    rw [← hR2];show (if j<k' then R j else 0)=_;by_cases hjk:j<k'
    · rw [if_pos hjk,if_pos hjk,h.row j hj,if_pos (by omega)]
    · rw [if_neg hjk,if_neg hjk]
  have hfo:=h.fo.cutted z k' k' 0 he hls (by omega) f hf2 0 hR2 hL2.symm hX2.symm (fun hq=>absurd rfl hq.1) hPL (v':=toldV v R2 0 (z:Int)) (fun j hj=>by
    unfold toldV;rw [if_neg (by omega),if_neg (by omega),if_pos (by omega),show 10+j - 10=j by omega]) rfl hF2
  refine ⟨_,R2,X2,rfl,Za ⟨hfo.lower (2+k') (by omega) (fun j hj=>?_) rfl,hrow2,rfl,?_,?_,?_,by omega⟩,Za (hk2.out.mono (by omega)),hc2⟩
  · rw [hrow2 j hj]
    split <;> omega
  · show (z:Int)=_;rw [hz]
  · rw [← hXX, ← hR2,gives_S h k' hk' 128 (Zj _)];unfold supU;congr 1;funext i;by_cases hi:i<2+k'
    · have h1:i<2+k:=by omega
      have h2:¬ (2+k'≤i∧i<2+128):=by omega
      simp [hi,h1,h2]
    · by_cases h1:i<2+k
      · have h2:2+k'≤i∧i<2+128:=by omega
        simp [hi,h1,h2]
      · simp [hi,h1]
  · rw [← hXX,hgr,h.rd]
end
/- A directory's file,written from its beginning:blocks more,or as many. Conditions:those named. -/
section
variable {b:Nat} {w w':World} {gd gv gm gs r:Nat} {Bs:List BV} {N n m k:Nat} {X:DX} {v R:Nat→Int} {F F2:Nat→UInt8}
theorem DF.zeros (h:DF Bs X v R k F):∀ q,q≤128→zc R 0 q=q - k
  | 0,_=>(Nat.zero_sub k).symm
  | q+1,hq=>by
    rw [zc_succ,DF.zeros h q (by omega),Nat.zero_add,h.row q (by omega)];by_cases hk:q<k
    · rw [if_pos hk,if_neg (by omega)];omega
    · rw [if_neg hk,if_pos rfl];omega
theorem DF.fls (h:DF Bs X v R k F) {k2:Nat} (hk2:k≤k2) (h16:k2≤16):∀ j,j<128→flR R (2+k) 0 k2 j=if j<k2 then ((2+j:Nat):Int) else 0:=fun j hj=>by
  unfold flR;rw [h.row j hj,Nat.sub_zero,h.zeros j (by omega)];by_cases h1:j<k
  · rw [if_pos h1,if_neg (by omega),if_pos (by omega)]
  · rw [if_neg h1];by_cases h2:j<k2
    · rw [if_pos ⟨Nat.zero_le _,by omega,rfl⟩,if_pos h2];omega
    · rw [if_neg (by omega),if_neg h2]
theorem DF.write (h:DF Bs X v R k F) (k2:Nat) (hk2:k≤k2) (h16:k2≤16) (h1:1≤k2) (A:Option Addr) (c M:Nat) (l:L8) (hM:l.length=M) (hM2:k2*256=M) (hlc:M≤c) (hn:n+130≤2999) (hN:N≤256) (hroom:2+k2+1≤N)
    (hk:DK b w gd gv gm gs r Bs N n X) (hD:∀ W,Chg [gd,gm] w W→Hol W A l) (hF2:∀ i,F2 i=if i<M then l.getD i 0 else F i):
    Calls Tryz.prog 20 #[.pointer (some ⟨gd,0,none⟩),.agg (ncs v).toArray,.int .i64 0,.slice A M c] w fun ee w'=>∃ (v2 R2:Nat→Int) (X2:DX),ee=.returned (.agg (ncs v2).toArray)∧Hid (DF Bs X2 v2 R2 k2 F2)∧Hid (DK b w' gd gv gm gs r Bs N (n+130) X2)∧Hid (Chg [gd,gm] w w'):=by
  have hF2':∀ i,F2 i=if 0≤i∧i<0+M then l.getD (i - 0) 0 else F i:=fun i=>by
    rw [hF2,Nat.zero_add,Nat.sub_zero];by_cases hi:i<M
    · rw [if_pos hi,if_pos ⟨Nat.zero_le _,hi⟩]
    · rw [if_neg hi,if_neg (fun hq=>hi hq.2)]
  have hlim:=h.lim;have hFF:0*256≤0∧0<0*256+256∧0+M≤k2*256∧k2*256<0+M+256:=by omega
  have hex:∀ q,∃ g:Nat→UInt8,q<k2→∃ zk:Nat,R (0+q)=(zk:Int)∧Cont X Bs zk g∧∀ p,p<256→g p=F ((0+q)*256+p):=fun q=>by
    by_cases hq:q<k2
    · obtain ⟨zk,e1,_,g,e2,e3⟩:=h.fo.cont (0+q) (by omega);exact ⟨g,fun _=>⟨zk,e1,e2,e3⟩⟩
    · exact ⟨fun _=>0,fun h=>absurd h hq⟩
  obtain ⟨fk,hfk⟩:∃ fk:Nat→Nat→UInt8,∀ q,q<k2→∃ zk:Nat,R (0+q)=(zk:Int)∧Cont X Bs zk (fk q)∧∀ p,p<256→fk q p=F ((0+q)*256+p):=⟨fun q=>Classical.choose (hex q),fun q=>Classical.choose_spec (hex q)⟩;clear hex;obtain ⟨bk,hbk⟩:∃ bk:Nat→Nat→UInt8,(fun q=>mixF l (((0:Nat):Int) - ((0+q:Nat):Int)*256) (fk q))=bk:=⟨_,rfl⟩
  have hbk2:∀ q,q<k2→∀ p,p<256→bk q p=F2 ((0+q)*256+p):=fun q hq p hp=>by
    obtain ⟨zk,_,_,h3⟩:=hfk q hq;rw [← hbk];show mixF l (((0:Nat):Int) - ((0+q:Nat):Int)*256) (fk q) p=_;have h4:=mixF_at (l:=l) (off:=0) (bse:=(0+q)*256) (q:=p) (g:=fk q) (F:=F) (F2:=F2) (by rw [hM];exact hF2') (h3 p hp);rw [← h4,Int.natCast_mul];rfl
  have hF3:∀ j,j<128→¬ (0≤j∧j<k2)→∀ p,p<256→F (j*256+p)=F2 (j*256+p):=fun j hj hno p hp=>by
    rw [hF2,if_neg];have h5:k2*256≤j*256:=Nat.mul_le_mul_right _ (by omega);omega
  have hRD:∀ j,j<16→rowD v j=R j:=fun j hj=>by unfold rowD;rw [if_pos hj,h.fo.dir j hj]
  have hz2:∀ q,q≤k2→zc (rowD v) 0 q=zc R 0 q:=fun q hq=>zc_congr 0 q (fun j hj=>hRD _ (by omega))
  have hfl:∀ j,j<16→flR (rowD v) (2+k) 0 k2 j=flR R (2+k) 0 k2 j:=fun j hj=>by
    unfold flR;rw [hRD j hj];by_cases hq:0≤j∧j<0+k2∧R j=0
    · rw [if_pos hq,if_pos hq,hz2 _ (by omega)]
    · rw [if_neg hq,if_neg hq]
  have hout:∀ (Q:Nat→Int) (j:Nat),j<112→flR Q (2+k) 0 k2 (16+j)=Q (16+j):=fun Q j hj=>by
    unfold flR;rw [if_neg (by omega)]
  have hzc:zc R 0 k2=k2 - k:=h.zeros k2 (by omega);have hm2:flM k2 (v 26) (2+k+zc R 0 k2)=2+k2:=by unfold flM;rw [if_pos (.inl h16),hzc];omega
  have hL2:flL k2 (v 26) (2+k+zc R 0 k2)=0:=by unfold flL;rw [if_pos (.inl h16)];exact h.v26
  obtain ⟨X1,hX1⟩:∃ X1,(X.setS (supU 2 iA oA (2+k2))).wrs (fun q=>flR R (2+k) 0 k2 (0+q)) bk k2=X1:=⟨_,rfl⟩
  have hX1S:X1.S=supU 2 iA oA (2+k2)∧X1.rd=true:=by
    rw [← hX1];have h1:=wrs_S (X.setS (supU 2 iA oA (2+k2))) (fun q=>flR R (2+k) 0 k2 (0+q)) bk k2;exact ⟨h1.1,h1.2.trans h.rd⟩
  have hsame:(X.setS (supU 2 iA oA (2+k2))).wrs (fun q=>flR (rowD v) (2+k) 0 k2 (0+q)) bk k2=X1:=by rw [← hX1];exact wrs_congr _ _ _ (fun j hj=>hfl _ (by omega))
  have hz:(if (((0:Nat)+M:Nat):Int) > v 5 then (((0:Nat)+M:Nat):Int) else v 5)=(M:Int):=by
    rw [h.size];have h5:k*256≤k2*256:=Nat.mul_le_mul_right _ hk2
    split <;> omega
  have hw:=dwrite (X':=X) (X2:=X1) v (rowD v) A c M 0 0 k2 k2 l fk 2 (2+k) iA oA (M:Int) hk (.inl ⟨h.rd,rfl⟩) (by omega) hM hlc (by omega) (by omega) hFF (by omega) hD (h.fo.row_d k2 h16) (fun j hj=>by
      unfold rowD
      split
      · rw [← h.fo.dir j (by omega)];exact h.fo.bounds j hj
      · omega) (by rw [h.v26];decide) h.S (by omega) hN (by rw [hz2 _ (Zj _),hzc];omega) (fun q hq=>by
      obtain ⟨zk,e1,e2,_⟩:=hfk q hq
      exact ⟨zk,by rw [hRD _ (by omega)];exact e1,e2⟩) hz (by
      rw [hz2 _ (Zj _),hm2,hL2,hbk,hsame];exact .inl ⟨.inl rfl,rfl⟩)
  rw [hz2 _ (Zj _),hL2] at hw;refine hw.mono ?_;rintro ee w' ⟨rfl,hk3,hc3⟩;have hrow2:=h.fls hk2 h16
  have hfo:=h.fo.written (by omega) 0 k2 k2 (by omega) (by omega) 0 (2+k2) hL2 hm2 (by omega) bk hbk2 hF3 (supU 2 iA oA (2+k2)) (v':=toldV v (flR (rowD v) (2+k) 0 k2) 0 (M:Int)) (fun j hj=>by
    rw [← hfl j hj];unfold toldV
    rw [if_neg (by omega),if_neg (by omega),if_pos (by omega),show 10+j - 10=j by omega]) rfl (by
    rw [hX1];exact .inl ⟨.inl rfl,rfl⟩)
  refine ⟨_,flR R (2+k) 0 k2,X1,rfl,Za ⟨hfo,hrow2,rfl,?_,hX1S.1,hX1S.2,h16⟩,Za (hk3.out.mono (by omega)),hc3⟩;show (M:Int)=_;rw [hM2]
end
/- bytes.Join of a list's leaves:their bytes in a row. Conditions:leaves of 256 bytes,no more than 32. -/
def JoinP (w:World) (L:Nat) (l:List UInt8) (e:Ending) (w':World):Prop:=
  ∃ A c,e=.returned (.slice A L c)∧Hid (Hol w' A l∧L≤c∧∀ g o,A=some ⟨g,o,none⟩→w.heap.size≤g)∧Hid (Below w.heap.size w w')
theorem fresh_hol {B:Nat} {w':World} {v:Value} {l:List UInt8} (h:Lib.FreshBytes B w' v l):∃ A c,v=.slice A l.length c∧Hol w' A l∧l.length≤c∧∀ g o,A=some ⟨g,o,none⟩→B≤g:=by
  obtain ⟨g,cap,zs,rfl,hB,hlc,_,hz,hr,hbs,hc,_⟩:=h;refine ⟨some ⟨g,0,none⟩,cap,rfl,.inr ⟨g,0,rfl,fun j x hx=>?_⟩,hlc,fun g' o' e=>by injection e with e;injection e with e;omega⟩;obtain ⟨hj,hxe⟩:=Zn.1 hx;have h1:=hc j (by omega);rw [Nat.zero_add,h1];have hjz:j<zs.length:=by omega
  have e1:zs.getD j 0=zs[j]:=by rw [List.getD_eq_getElem?_getD,Zh hjz];rfl
  have h2:=hr zs[j] (List.getElem_mem hjz)
  have e2:l[j]?=some (UInt8.ofNat zs[j].toNat):=by
    rw [← hbs,Lib.bytesOf_take,List.getElem?_take_of_lt hj];unfold Lib.bytesOf;rw [List.getElem?_map,Zh hjz];rfl
  rw [hx] at e2;injection e2 with e2
  rw [e1,e2,UInt8.toNat_ofNat'];congr 2;omega
theorem flat_256:∀ (L:List (List UInt8)),(∀ b ∈ L,b.length=256)→L.flatten.length=L.length*256
  | [],_=>rfl
  | x::L,h=>by
    rw [List.flatten_cons,Zf,h x (by simp),flat_256 L (fun b hb=>h b (by simp [hb])),List.length_cons];omega
theorem join_flat (L:List (List UInt8)):Lib.join L []=L.flatten:=by
  cases L with
  | nil=>rfl
  | cons x r=>
    rw [Lib.join_cons];simp [Lib.joinTail]
theorem lens_256:∀ (L:List (List UInt8)),(∀ b ∈ L,b.length=256)→Lib.lens L=L.length*256
  | [],_=>rfl
  | x::L,h=>by
    have ih:=lens_256 L (fun b hb=>h b (by simp [hb]));unfold Lib.lens at ih ⊢;rw [List.map_cons,List.sum_cons,ih,h x (by simp),List.length_cons];omega
theorem holds_bv {w:World} {b:BV} (h:Hol w b.A b.l):Lib.HoldsBytes w (bvv b) b.l:=by
  refine ⟨b.A,b.c,rfl,fun e=>?_,fun a e i x hx=>?_⟩
  · rcases h with h | ⟨g,o,h1,_⟩
    · exact h
    · rw [e] at h1;cases h1
  · rcases h with h | ⟨g,o,h1,h2⟩
    · rw [h] at hx;simp at hx
    · rw [h1] at e;injection e with e
      subst e;rw [Addr.add_lit];exact h2 i x hx
theorem join_any (base:Nat) (A:Option Addr) (m c:Nat) (P:List BV) (w:World) (h:OwnBs base w A m c P) (h256:∀ b ∈ P,b.l.length=256) (hm:m≤100):
    Calls Tryz.prog 35 #[.slice A m c,.slice none 0 0] w (JoinP w (m*256) (P.map (·.l)).flatten):=by
  have hL:(P.map (·.l)).length=m:=by rw [List.length_map];exact h.2.1
  have h6:∀ b ∈ P.map (·.l),b.length=256:=fun b hb=>by obtain ⟨y,hy,rfl⟩:=List.mem_map.1 hb;exact h256 y hy
  have hfl:=flat_256 _ h6;rw [hL] at hfl;have hsep:Lib.HoldsBytes w (.slice none 0 0) []:=⟨none,0,rfl,fun _=>rfl,fun a e=>by cases e⟩;have hlies:Lies sc 1 w A P:=Lies.own (by decide) sc_len h.1;by_cases h0:m=0
  · subst h0;have hP:P=[]:=Zk h.2.1;subst hP;refine (Tryz.bytes_Join_none A c (.slice none 0 0) w).mono ?_;rintro e w' ⟨rfl,rfl⟩;exact ⟨some ⟨w.heap.size,0,none⟩,0,rfl,Za ⟨.inl rfl,Zj _,fun g o e=>by injection e with e;injection e with e;omega⟩,Za ((Below.refl _ w).alloc (Zj _) _)⟩
  · have hp0:0<P.length:=by rw [h.2.1];omega
    obtain ⟨g,o,rfl,hc0⟩:=hlies.at_ hp0
    have hcells:∀ (i:Nat) b,P[i]?=some b→w.cell? ⟨g,o+i,none⟩=some (bvv b):=fun i b hb=>by
      obtain ⟨hi,rfl⟩:=Zn.1 hb;obtain ⟨g',o',e1,hc⟩:=hlies.at_ hi;injection e1 with e1
      injection e1 with e1 e2
      subst e1 e2;have h1:=hc 0 (bvv P[i]) rfl;rw [Nat.mul_one,Nat.add_zero] at h1;exact h1
    have hfin:∀ e w',(∃ v',e=Ending.returned v'∧Lib.FreshBytes w.heap.size w' v' (P.map (·.l)).flatten∧Below w.heap.size w w')→JoinP w (m*256) (P.map (·.l)).flatten e w':=fun e w' ⟨v',h1,h2,h3⟩=>by
      obtain ⟨A',c',e2,h4,h5,h7⟩:=fresh_hol h2;rw [hfl] at e2 h5;exact ⟨A',c',by rw [h1,e2],Za ⟨h4,h5,h7⟩,Za h3⟩
    by_cases h1:m=1
    · subst h1;obtain ⟨p,hp⟩:∃ p,P=[p]:=List.length_eq_one_iff.1 h.2.1;subst hp;have hpl:=h256 p (by simp);obtain ⟨g2,o2,e2,_,hc2⟩:=(h.2.2 p (by simp)).hol.some_ (by omega);have hcell:=hcells 0 p rfl;unfold bvv at hcell;rw [e2] at hcell;refine (Tryz.bytes_Join_one g o c ⟨g2,o2,none⟩ p.c p.l (.slice none 0 0) w hcell (fun i x hx=>by rw [Addr.add_lit];exact hc2 i x hx) (by omega) (by omega)).mono ?_;intro e w' he;exact hfin e w' (by simpa using he)
    · have hparts:Lib.PartsAt w ⟨g,o,none⟩ (P.map bvv) (P.map (·.l)):=by
        refine ⟨by simp,fun i v hv=>?_,fun i v l hv hl=>?_⟩
        · rw [List.getElem?_map] at hv;obtain ⟨b,hb,rfl⟩:=Option.map_eq_some_iff.1 hv;rw [Addr.add_lit];exact hcells i b hb
        · rw [List.getElem?_map] at hv hl;obtain ⟨b,hb,rfl⟩:=Option.map_eq_some_iff.1 hv;rw [hb] at hl;injection hl with hl
          subst hl;exact holds_bv (h.2.2 b (Zx hb)).hol
      have hj:=Tryz.bytes_Join_many g o m c (P.map bvv) (P.map (·.l)) (.slice none 0 0) [] w hL (by omega) hparts (own_cap h.1) hsep (by omega) (by rw [lens_256 _ h6,hL];simp;omega);rw [join_flat] at hj;exact hj.mono (fun e w' he=>hfin e w' he)
end Go.Proofs.YtijffkklhgnknaaGreatDoor
/- slices.Chunk at 256 bytes:the pieces come one by one. Conditions:the bytes' length is a multiple of 256. -/
namespace Go.Proofs.YtijffkklhgnknaaGreatDoor
open Go.RowKit Go.Shelf
attribute [local go_sem] Oper.semAt_some
abbrev Sl:=Option Addr × Nat × Nat
def slv (x:Sl):Value:=.slice x.1 x.2.1 x.2.2
def pieceV (g o k:Nat):Sl:=(some ⟨g,o+k*256,none⟩,256,256)
def pieces (g o m:Nat):List Sl:=(List.range m).map (pieceV g o)
theorem pieces_succ (g o m:Nat):pieces g o (m+1)=pieces g o m++[pieceV g o m]:=by simp [pieces,List.range_succ]
theorem pieces_len (g o m:Nat):(pieces g o m).length=m:=by simp [pieces]
theorem piece_nums {k m q L:Nat} (h1:m*256=L) (h2:m≤100000) (h3:k*256=q) (h4:k<m):(q:Int)<(L:Int)∧IntKind.i64.wrap ((q:Int)+256)=((q+256:Nat):Int)∧wrap64 ((q:Int)+256)=((q+256:Nat):Int)∧q+256≤L∧(k+1)*256=q+256:=by
  have hq:q+256≤L:=by rw [← h1, ← h3];have h5:(k+1)*256≤m*256:=Nat.mul_le_mul_right _ h4;rw [Nat.succ_mul] at h5;exact h5
  have hb:q≤25600000:=Nat.le_trans (Nat.le_trans (Nat.le_add_right q 256) hq) (by rw [← h1];exact Nat.mul_le_mul_right 256 h2);have hk:(k+1)*256=q+256:=by rw [Nat.succ_mul,h3]
  clear h1 h2 h3 h4;refine ⟨?_,?_,?_,hq,hk⟩
  · clear hb hk;omega
  · clear hq hk;rw [Zg];omega
  · clear hq hk;unfold wrap64;omega
theorem piece_cut1 (g o L c q:Nat) (h1:(q:Int)<(L:Int)) (h2:L≤c) (W:World):(Instr.slice 23 (.slice (some ⟨g,o,none⟩) L c) (some (.int .i64 (q:Int))) none none).run Tryz.prog W=.ok (.slice (some ⟨g,o+q,none⟩) (L - q) (c - q)) W:=by
  rw [run_slice_l (P:=Tryz.prog) W 23 (some ⟨g,o,none⟩) L c (by kernel_rfl) .i64 q (by omega) (by omega)];have hs:(sizeOf (Tryz.prog.elem 23)).run Tryz.prog W=.ok 1 W:=by kernel_rfl
  rw [hs];have hne:¬ c=q:=by omega
  have hne2:¬ q=c:=by omega
  simp [Result.andThen,sliced,hne,Addr.add]
theorem piece_cut2 (g o L c q q2:Nat) (h0:q+256=q2) (h1:q2≤L) (h2:L≤c) (W:World):(Instr.slice 23 (.slice (some ⟨g,o,none⟩) L c) (some (.int .i64 (q:Int))) (some (.int .i64 (q2:Int))) (some (.int .i64 (q2:Int)))).run Tryz.prog W=.ok (.slice (some ⟨g,o+q,none⟩) 256 256) W:=by
  rw [run_slice_lhm (P:=Tryz.prog) W 23 (some ⟨g,o,none⟩) L c (by kernel_rfl) .i64 .i64 .i64 q q2 q2 (by omega) (by omega) (by omega) (by omega)];have hs:(sizeOf (Tryz.prog.elem 23)).run Tryz.prog W=.ok 1 W:=by kernel_rfl
  rw [hs];have hne:¬ q2=q:=by omega
  have hsub:q2 - q=256:=by omega
  simp [Result.andThen,sliced,hne,hsub,Addr.add]
def encP (x:Sl):Array Value:=#[slv x]
set_option maxRecDepth 100000 in
theorem chunk1_in (F:Fence) (n:Nat) (h7:F.fn 83) (hro:F.round=none) (hn:1≤n) (l Bs Bn n0:Nat) (A:Option Addr) (g o c m L:Nat) (hL:m*256=L) (hm:m≤100000) (hA:0<m→A=some ⟨g,o,none⟩) (hc:L≤c) (J Jx:List Sl→World→Prop) (hJ:∀ s W,J s W→J s W.drew)
    (hY:∀ pre x W,J pre W→pre.length<m→YieldAt F (n - 1) Tryz.prog l (encP x) W fun e W'=>
      (e=.returned (.bool true)∧J (pre++[x]) W'∧Below n0 W W')∨(e=.returned (.bool false)∧Jx (pre++[x]) W'))
    (W:World) (hBs:W.cell? ⟨Bs,0,none⟩=some (.slice A L c)) (hBn:W.cell? ⟨Bn,0,none⟩=some (.int .i64 256)) (hB0:Bs<n0) (hB1:Bn<n0) (h0:J [] W):
    CallsIn F n Tryz.prog 83 #[.func (.yield l) #[] #[],.pointer (some ⟨Bs,0,none⟩),.pointer (some ⟨Bn,0,none⟩)] W fun e W'=>(∃ v,e=.returned v)∧
      ((∃ ys,ys=pieces g o m∧J ys W')∨(∃ pre,(∃ k,k≤m∧pre=pieces g o k)∧Jx pre W')):=by
  have HL:=Za (p:=m*256=L∧m≤100000∧L≤c) ⟨hL,hm,hc⟩;have HA:=Za hA;clear hL hm hA hc;refine callsIn_of_wp Tryz.func83 rfl h7 ?_ hro;simp only [Tryz.ntmps83,List.size_toArray,List.length_cons,List.length_nil,Nat.reduceAdd,Nat.reduceSub,Array.replicate_succ,Array.replicate_zero,List.push_toArray,List.append_toArray,Zt,List.cons_append]
  gi_wp2
  gi_loopw [4] (fun i wr=>∃ (k q:Nat),Hid (k≤m)∧i=.int .i64 (q:Int)∧Hid (k*256=q)∧J (pieces g o k) wr∧Hid (Below n0 W wr))
    (fun i _=>L - (intOf i).toNat)
  case atStart=>exact ⟨0,0,Za (Nat.zero_le _),rfl,Za rfl,h0,Za (Below.refl _ _)⟩
  case round=>
    obtain ⟨k,q,HK,rfl,HQ,hJs,HX⟩:=hrel;have cB:wr.cell? ⟨Bs,0,none⟩=some (.slice A L c):=(HX.out.cell (p:=⟨Bs,0,none⟩) hB0).trans hBs;have cN:wr.cell? ⟨Bn,0,none⟩=some (.int .i64 256):=(HX.out.cell (p:=⟨Bn,0,none⟩) hB1).trans hBn;by_cases hlt:k<m
    · obtain ⟨hqL,hw2,hw3,hq2,hkq⟩:=piece_nums HL.out.1 HL.out.2.1 HQ.out hlt;obtain rfl:=HA.out (Nat.lt_of_le_of_lt (Nat.zero_le _) hlt);obtain ⟨fn,tmps,assign,body,hy,hR⟩:=hY (pieces g o k) (pieceV g o k) wr.drew (hJ _ _ hJs) (by rw [pieces_len];exact hlt)
      dsimp only [encP,pieceV,slv] at hy;rw [HQ.out] at hy;obtain ⟨q2,e2⟩:∃ q2,q+256=q2:=⟨_,rfl⟩;rw [e2] at hw2 hw3 hq2 hkq;have HQ2:=Za (And.intro hq2 hkq);have HE2:=Za e2;have HLT:=Za hlt;clear e2 hlt hq2 hkq;have hs1:∀ W:World,(Instr.slice 23 (.slice (some ⟨g,o,none⟩) L c) (some (.int .i64 (q:Int))) none none).run Tryz.prog W=.ok (.slice (some ⟨g,o+q,none⟩) (L - q) (c - q)) W:=piece_cut1 g o L c q hqL HL.out.2.2;have hs2:∀ W:World,(Instr.slice 23 (.slice (some ⟨g,o,none⟩) L c) (some (.int .i64 (q:Int))) (some (.int .i64 (q2:Int))) (some (.int .i64 (q2:Int)))).run Tryz.prog W=.ok (.slice (some ⟨g,o+q,none⟩) 256 256) W:=piece_cut2 g o L c q q2 HE2.out HQ2.out.1 HL.out.2.2;obtain ⟨d,hd⟩:∃ d,L - q=d:=⟨_,rfl⟩;rw [hd] at hs1;have hmin:min (256:Int) (d:Int)=256:=Int.min_eq_left (by have:=HE2.out;have:=HQ2.out.1;omega);have hmin2:(if (d:Int)<256 then (d:Int) else 256)=256:=if_neg (by have:=HE2.out;have:=HQ2.out.1;omega);clear hd
      gi_wp2
      gi_region
      all_goals (
        gi_wp2;refine hR.mono ?_;rintro e W3 (⟨rfl,hJ3,hk3⟩ | ⟨rfl,hJx3⟩)
        · have HX3:=Za (HX.out.drew.trans hk3);have cN3:W3.cell? ⟨Bn,0,none⟩=some (.int .i64 256):=(HX3.out.cell (p:=⟨Bn,0,none⟩) hB1).trans hBn;clear hy hR hs1 hs2 hmin hmin2 cB cN
          gi_wp2;go_roundw
          case rel=>exact ⟨k+1,q2,Za HLT.out,rfl,Za HQ2.out.2,by rw [pieces_succ];exact hJ3,HX3⟩
          case measure=>have:=HE2.out;have:=HQ2.out.1;simp [intOf];omega
        · clear hy hR hs1 hs2 hmin hmin2 cB cN
          gi_wp2;refine Yd (results_none rfl _ _ _) rfl ?_;exact ⟨⟨_,rfl⟩,.inr ⟨_,⟨k+1,HLT.out,by rw [pieces_succ]⟩,hJx3⟩⟩)
    · have hkm:k=m:=by have:=HK.out;omega
      have hqL:¬ (q:Int)<(L:Int):=by have h1:=HL.out.1;have h2:=HQ.out;subst hkm;omega
      subst hkm;clear hlt
      gi_wp2;go_end0;exact ⟨⟨_,rfl⟩,.inl hJs⟩
end Go.Proofs.YtijffkklhgnknaaGreatDoor
