/- A file cut, or made longer. Conditions: the desk lies there, the file's slots are slots, there are fewer than 128 blocks. -/
import Derived.Test.YtijffkklhgnknaaGreatDoorAz
import Derived.Test.YtijffkklhgnknaaGreatDoorMgNc
set_option maxHeartbeats 20000000
set_option linter.unusedVariables false
set_option maxRecDepth 20000
namespace Go.Proofs.YtijffkklhgnknaaGreatDoor
open Go.RowKit
def cutR (W0:Nat→Int) (e j:Nat):Int:=if j<e then W0 j else 0
theorem plan_two (S:Sup) (W0:Nat→Int) (L:Int) (e:Nat) (h:e≤128):S.cs++ptl W0 L=(S.cs++inl e W0)++(inl (128 - e) (fun j=>W0 (e+j))++[.int .i64 L]):=by
  have h1:inl 128 W0=inl e W0++inl (128 - e) (fun j=>W0 (e+j)):=by rw [← inl_add,show e+(128 - e)=128 by omega]
  unfold ptl;rw [h1,Zi,Zi]
theorem plan_cut (S:Sup) (W0:Nat→Int) (L:Int) (e:Nat) (h:e≤128):(S.cs++inl e W0)++(List.replicate (128 - e) (Value.int .i64 0)++[.int .i64 L])=S.cs++ptl (cutR W0 e) L:=by
  have h1:inl e W0=inl e (cutR W0 e):=by
    apply List.map_congr_left;intro j hj;have:=List.mem_range.1 hj;unfold cutR;rw [if_pos this]
  have h2:List.replicate (128 - e) (Value.int .i64 0)=inl (128 - e) (fun j=>cutR W0 e (e+j)):=by
    apply List.ext_getElem?;intro j;rw [List.getElem?_replicate];by_cases hj:j<128 - e
    · rw [if_pos hj,inl_get _ hj];unfold cutR;rw [if_neg (by omega)]
    · rw [if_neg hj,List.getElem?_eq_none (by rw [inl_len];omega)]
  rw [plan_two S (cutR W0 e) L e h,h1,h2]
theorem plan_setL (S:Sup) (R:Nat→Int) (L:Int):(S.cs++ptl R L).set 515 (.int .i64 0)=S.cs++ptl R 0:=by
  have h:515=S.cs.length+128:=by rw [Sup.cs_len]
  rw [h,List.set_append,if_neg (by omega),Nat.add_sub_cancel_left,ptl_setL]
theorem cut_nums {z last st e:Nat} (h:z=last*256+st∧st<256) (hz:z≤32512) (he:z≤e*256∧e*256<z+256):(z:Int) / 256=(last:Int)∧(z:Int) % 256=(st:Int)∧last≤127∧e≤127:=by
  obtain ⟨h1,h2⟩:=h;subst h1;refine ⟨by omega,by omega,by omega,by omega⟩
theorem blk_hol1 {w:World} {g:Nat} {f:Nat→UInt8} (h:Row w g 110 (brr 256 f)):Hol w (some ⟨g,0,none⟩) (lst 256 f):=by
  refine .inr ⟨g,0,rfl,fun j x hx=>?_⟩
  have hj:j<256:=by
    have h1:=(Zn.1 hx).1;rw [lst_len] at h1;exact h1
  rw [lst_get _ hj] at hx;injection hx with hx
  rw [Nat.zero_add,h.cell,brr_get _ hj, ← hx];rfl
section
variable {b:Nat} {w w':World} {gd gv gm gs r:Nat} {Bs:List BV} {N n:Nat} {X X' X2 X3:DX}
theorem dcut (v W0 R2:Nat→Int) (z e last st:Nat) (f:Nat→UInt8) (L2:Int) (h:DK b w gd gv gm gs r Bs N n X) (hL:LdR Bs X X') (hR2:cutR W0 e=R2) (hn:n+gvs W0 R2 128+gvL (v 26) L2+2≤3000)
    (hz:z≤32512) (he:z≤e*256∧e*256<z+256) (hls:z=last*256+st∧st<256) (hrow:RowOk b gd gv gm gs r Bs N X' v 128 W0) (hW:∀ j,j<128→0≤W0 j∧W0 j≤255) (hv26:0≤v 26∧v 26≤255)
    (hL2:L2=if lsd R2=true then v 26 else 0) (hcont:st≠0→∃ zl:Nat,W0 last=(zl:Int)∧Cont X' Bs zl f)
    (hX2:X2=if st≠0∧sameF f st=false then ((X'.gives W0 R2 128).giveL (v 26) L2).put (W0 last) (lst 256 (cutF f st)) else (X'.gives W0 R2 128).giveL (v 26) L2) (hPL:PL X2 (v 26) L2 W0 R2 X3):
    Calls Tryz.prog 21 #[.pointer (some ⟨gd,0,none⟩),.agg (ncs v).toArray,.int .i64 (z:Int)] w fun ee w'=>ee=.returned (.agg (ncs (toldV v R2 L2 (z:Int))).toArray)∧Hid (DK b w' gd gv gm gs r Bs N (n+gvs W0 R2 128+gvL (v 26) L2+2) X3)∧Hid (Chg [gd,gm] w w'):=by
  have HBG:=Za (hbegin h (by omega));have HLT:=Za (p:=gd<w.heap.size∧gm<w.heap.size) ⟨h.lt,by obtain ⟨C,h2,_⟩:=h.view;exact h2.map.lt⟩;have HLO:=Za h.lo;have HL:=Za hL;have HN:=Za hn;have i1:=Za (fun x:Sup=>info_cs x);have i2:=Za (fun v=>info_ncs v);have i3:=Za info_rows;have i4:=Za (fun S R L=>info_plans S R L);have i5:=Za (fun f=>info_brr f);have hzi:=Za zero_ino;have hzr:=Za zero_row;have hzp:=Za zero_plan_run;have hzb:=Za zero_block;have HBP:=Za (fun S R L=>built_plan S R L);have HMAY:=Za (p:=∀ w,Calls Tryz.prog 45 #[.int .i64 0,.int .i64 (z:Int)] w fun e w'=>e=.returned (.bool true)∧w=w') (fun w=>may_ok 0 z (by omega) w)
  have HBLK:=Za (p:=∀ w,Calls Tryz.prog 51 #[.int .i64 (z:Int)] w fun e' w'=>e'=.returned (.int .i64 (e:Int))∧w=w') (fun w=>by
    have h1:=blocks_any (z:Int) (by omega) w;by_cases h0:z=0
    · have h2:e=0:=by omega
      rw [h0,h2];rw [h0] at h1;exact h1
    · rw [blks_nat z (by omega),show (z - 1) / 256+1=e by omega] at h1;exact h1)
  have HROW:=Za (p:=∀ (w:World) (n:Nat),DK b w gd gv gm gs r Bs N n X'→Calls Tryz.prog 43 #[.pointer (some ⟨gd,0,none⟩),.agg (ncs v).toArray,.int .i64 128] w (DOne b w gd gv gm gs r Bs N n X' (.agg (inl 128 W0).toArray))) hrow;obtain ⟨v26,hv26e⟩:∃ v26,v 26=v26:=⟨_,rfl⟩;have HV:=Za (p:=∀ W g,Row W g 43 (ncs v)→W.cell? ⟨g,26,none⟩=some (.int .i64 v26)) (fun W g h=>by rw [← hv26e];exact (h.cell 26).trans rfl);have HVE:=Za (p:=v 26=v26∧0≤v26∧v26≤255) ⟨hv26e,by omega,by omega⟩;obtain ⟨ls,hlse⟩:∃ ls,lsd R2=ls:=⟨_,rfl⟩;have HLSD:=Za (p:=∀ w,Calls Tryz.prog 52 #[.agg (inl 128 R2).toArray] w fun e w'=>e=.returned (.bool ls)∧Below w.heap.size w w') (fun w=>by rw [← hlse];exact listed_any R2 w);have HLS:=Za (p:=L2=if ls=true then v26 else 0) (by rw [← hlse, ← hv26e];exact hL2);have HE:=Za (p:=e≤127∧last≤127∧st<256) ⟨(cut_nums hls hz he).2.2.2,(cut_nums hls hz he).2.2.1,hls.2⟩;have HWB:=Za hW
  have HRB:=Za (p:=∀ j,j<128→0≤R2 j∧R2 j≤255) (fun j hj=>by
    rw [← hR2];unfold cutR
    split
    · exact hW j hj
    · omega)
  have HL2B:=Za (p:=0≤L2∧L2<256) (by rw [hL2];split <;> omega);have HTWO:=Za (p:=∀ S:Sup,S.cs++ptl W0 v26=(S.cs++inl e W0)++(inl (128 - e) (fun j=>W0 (e+j))++[.int .i64 v26])) (fun S=>plan_two S W0 v26 e (by omega));have HCUT:=Za (p:=∀ S:Sup,(S.cs++inl e W0)++(List.replicate (128 - e) (Value.int .i64 0)++[.int .i64 v26])=S.cs++ptl R2 v26) (fun S=>by rw [← hR2];exact plan_cut S W0 v26 e (by omega))
  have hq:wrap64 ((z:Int) / 256)=(last:Int):=by
    rw [(cut_nums hls hz he).1];exact wr64_nat last (by have:=(cut_nums hls hz he).2.2.1;omega)
  have hrm:(z:Int) % 256=(st:Int):=(cut_nums hls hz he).2.1;have hl128n:last<128:=by have:=HE.out.2.1;clear hz he hls hL2 hn hX2;omega
  have hl128:(last:Int)<128:=Int.ofNat_lt.2 hl128n;have he128:(e:Int)≤128:=by have:=HE.out.1;clear hz he hls hL2 hn hX2;omega
  have hen:¬ 128=e:=by have:=HE.out.1;clear hz he hls hL2 hn hX2;omega
  rw [hv26e] at hn hX2 hPL ⊢;have HPL:=Za hPL;have HX2:=Za hX2;have HCONT:=Za hcont;have HNN:=Za (p:=n+gvs W0 R2 128+gvL v26 L2+2≤3000) hn;clear h hL hn hz he hls hrow hW hv26 hL2 hcont hX2 hPL hv26e hlse hR2 HN;go_enter Tryz.func21,Tryz.ntmps21
  go_wp2_with (first
    | (refine step_box rfl 4 rfl 43 (.tmp 1) rfl (ncs v) rfl ?_;intro g4 w2 hr2 hg2 hb2 hs2;have HR42:=Za hr2
       have HB2:=Za hb2;have HG4:=Za (p:=w.heap.size≤g4) (Nat.le_of_eq hg2.out.symm);clear hr2 hg2 hb2 hs2)
    | (refine step_alloc rfl 6 rfl 43 rfl _ hzi.out ?_;intro g6 w3 hr3 hg3 hb3 hs3;have HR63:=Za hr3
       have HR43:=Za (HR42.out.kept hb3);have HB3:=Za (below_nxt hb3 HB2.out);have HG6:=Za (p:=w.heap.size≤g6∧g4<g6) (by rw [hg3.out];exact ⟨HB2.out.size,HR42.out.lt⟩);clear hr3 hg3 hb3 hs3)
    | (go_at_call 27;refine (HBG.out _ HB3.out).mono ?_;rintro e w4 ⟨rfl,hk,hc⟩;have HK4:=hk
       have HC4:=Za (p:=Chg [gd] w w4) ((Chg.of (F:=[gd]) HB3.out).trans hc.out (fun x hx=>.inl hx));have HR44:=Za (hc.out.row HR43.out (by have h1:=HLT.out;have h2:=HG4.out;simp;omega));have HR64:=Za (hc.out.row HR63.out (by have h1:=HLT.out;have h2:=HG6.out;simp;omega));clear hk hc)
    | (go_at_call 45;refine (HMAY.out _).mono ?_;rintro e w5 ⟨rfl,rfl⟩)
    | (go_at_call 28;refine (dload HK4.out HL.out).mono ?_;rintro e w5 ⟨rfl,hk,hc⟩;have HK5:=hk
       have HC5:=Za (p:=Chg [gd] w w5) (chg_same HC4.out hc.out);have HR45:=Za (hc.out.row HR44.out (by have h1:=HLT.out;have h2:=HG4.out;simp;omega));have HR65:=Za (hc.out.row HR64.out (by have h1:=HLT.out;have h2:=HG6.out;simp;omega));clear hk hc)
    | (refine step_load rfl 23 rfl 43 (.tmp 4) rfl g4 rfl (ncs v) _ HR45.out.all Yh rfl (i2.out _) ?_)
    | (go_at_call 43;refine (HROW.out _ _ HK5.out).mono ?_;rintro e w6 ⟨rfl,hk,hc⟩;have HK6:=hk
       have HC6:=Za (p:=Chg [gd] w w6) (chg_same HC5.out hc.out);have HR46:=Za (hc.out.row HR45.out (by have h1:=HLT.out;have h2:=HG4.out;simp;omega));have HR66:=Za (hc.out.row HR65.out (by have h1:=HLT.out;have h2:=HG6.out;simp;omega));clear hk hc)
    | (refine step_alloc rfl 7 rfl 99 rfl _ hzr.out ?_;intro g7 w7 hr8 hg8 hb8 hs8;have HR77:=Za hr8
       have HK7:=Za (HK6.out.below hb8);have HC7:=Za (chg_nxt HC6.out hb8);have HR47:=Za (HR46.out.kept hb8);have HR67:=Za (HR66.out.kept hb8);have HG7:=Za (p:=w.heap.size≤g7∧g4<g7∧g6<g7) (by rw [hg8.out];exact ⟨HC6.out.size,HR46.out.lt,HR66.out.lt⟩);clear hr8 hg8 hb8 hs8)
    | (refine step_store rfl 99 (.tmp 7) (.tmp 24) rfl g7 rfl _ _ (inl 128 W0) rfl HR77.out (by rw [inl_len,inl_len]) (i3.out _) (inl_one _ _) ?_;intro w8 hr9 hg9 hs9;have HR78:=Za hr9.drew
       have HK8:=Za ((HK7.out.other HR77.out (by decide) (by have:=HLO.out;have:=HG7.out;omega) (Chg.one hg9)).below (below_drw w8));have HC8:=Za (p:=Chg [gd] w w8.drew) (chg_nxt (chg_own HC7.out HG7.out.1 (Chg.one hg9)) (below_drw w8));have HR48:=Za (p:=Row w8.drew g4 43 (ncs v)) ((HR47.out.grown hg9 (fun e=>by have:=HG7.out;injection e;omega)).drew);have HR68:=Za (p:=Row w8.drew g6 43 (ncs ino0)) ((HR67.out.grown hg9 (fun e=>by have:=HG7.out;injection e;omega)).drew);obtain ⟨tl,ah,la,e1,e2,e3,hd⟩:=HK8.out.parts;have HD:=Za hd;obtain ⟨DC,hDC⟩:∃ DC,((dhd gv N++[Value.bool X'.rd])++(X'.S.cs++(X'.S0.cs++tl)))=DC:=⟨_,rfl⟩;have HRNG:=Za (p:=∀ W,Row W gd 80 DC→W.rangeAt gd 3 X'.S.cs) (fun W h=>by subst hDC;exact h.rng rfl);rw [hDC] at HD;have HS8:=Za (p:=Row w8.drew gd 80 DC∧Row w8.drew g7 99 (inl 128 W0)∧Row w8.drew g4 43 (ncs v)) ⟨HD.out,HR78.out,HR48.out⟩;clear hr9 hg9 hs9 e1 e2 e3 hd hDC))
  refine Zq (S:=fun W=>Row W gd 80 DC∧Row W g7 99 (inl 128 W0)∧Row W g4 43 (ncs v)) (by kernel_rfl) HS8.out (fun hHeld=>?_);refine Ze (i:=0) (oi:=⟨some 25,.move (.tmp 0),_,_,_,_⟩) (v:=.pointer (some ⟨gd,0,none⟩)) rfl (by kernel_rfl) (by kernel_rfl) (by kernel_rfl) (fun _ _ _ h=>h) (.inl ⟨by rfl,fun w hSw=>by go_simp⟩) (by assumption) ?_;simp only [Act.put,Zb,Zc,Zd];refine Ze (i:=1) (oi:=⟨some 26,.nilCheck (.tmp 25),_,_,_,_⟩) (v:=.pointer (some ⟨gd,0,none⟩)) rfl (by kernel_rfl) (by kernel_rfl) (by kernel_rfl) (fun _ _ _ h=>h) (.inl ⟨by rfl,fun w hSw=>by go_simp⟩) (by assumption) ?_;simp only [Act.put,Zb,Zc,Zd];refine Ze (i:=2) (oi:=⟨some 27,.fieldAddr 80 (.tmp 26) 2,_,_,_,_⟩) (v:=.pointer (some ⟨gd,2,none⟩)) rfl (by kernel_rfl) (by kernel_rfl) (by kernel_rfl) (fun _ _ _ h=>h) (.inl ⟨by rfl,fun w hSw=>by go_simp⟩) (by assumption) ?_;simp only [Act.put,Zb,Zc,Zd];refine Ze (i:=3) (oi:=⟨some 28,.fieldAddr 78 (.tmp 27) 1,_,_,_,_⟩) (v:=.pointer (some ⟨gd,3,none⟩)) rfl (by kernel_rfl) (by kernel_rfl) (by kernel_rfl) (fun _ _ _ h=>h) (.inl ⟨by rfl,fun w hSw=>by go_simp⟩) (by assumption) ?_;simp only [Act.put,Zb,Zc,Zd];refine Ze (i:=4) (oi:=⟨some 29,.load 76 (.tmp 28),_,_,_,_⟩) (v:=.agg X'.S.cs.toArray) rfl (by kernel_rfl) (by kernel_rfl) (by kernel_rfl) (fun _ _ _ h=>h) (Yb (by rfl) 76 (.tmp 28) rfl gd 3 rfl X'.S.cs _ (fun w hSw=>HRNG.out _ hSw.1) Yj rfl (i1.out _)) (by assumption) ?_;simp only [Act.put,Zb,Zc,Zd];refine Ze (i:=5) (oi:=⟨some 30,.load 99 (.tmp 7),_,_,_,_⟩) (v:=.agg (inl 128 W0).toArray) rfl (by kernel_rfl) (by kernel_rfl) (by kernel_rfl) (fun _ _ _ h=>h) (Yb (by rfl) 99 (.tmp 7) rfl g7 0 rfl (inl 128 W0) _ (fun w hSw=>hSw.2.1.all) Yk rfl (i3.out _)) (by assumption) ?_;simp only [Act.put,Zb,Zc,Zd];refine Ze (i:=6) (oi:=⟨some 31,.fieldAddr 43 (.tmp 4) 11,_,_,_,_⟩) (v:=.pointer (some ⟨g4,26,none⟩)) rfl (by kernel_rfl) (by kernel_rfl) (by kernel_rfl) (fun _ _ _ h=>h) (.inl ⟨by rfl,fun w hSw=>by go_simp⟩) (by assumption) ?_;simp only [Act.put,Zb,Zc,Zd];refine Ze (i:=7) (oi:=⟨some 32,.load 3 (.tmp 31),_,_,_,_⟩) (v:=.int .i64 v26) rfl (by kernel_rfl) (by kernel_rfl) (by kernel_rfl) (fun _ _ _ h=>h) (.inl ⟨by rfl,fun w hSw=>by have z:=(HV.out _ _ hSw.2.2);go_simp⟩) (by assumption) ?_;simp only [Act.put,Zb,Zc,Zd];refine Ze (i:=8) (oi:=⟨some 33,.build 106 #[(0,.tmp 29),(1,.tmp 30),(2,.tmp 32)],_,_,_,_⟩) (v:=.agg (X'.S.cs++ptl W0 v26).toArray) rfl (by kernel_rfl) (by kernel_rfl) (by kernel_rfl) (fun _ _ _ h=>h) (.inl ⟨by rfl,fun w hSw=>run_build_op w _ 106 _ rfl [(0,.agg X'.S.cs.toArray),(1,.agg (inl 128 W0).toArray),(2,.int .i64 v26)] (by simp [Act.eval,Act.put]) _ (HBP.out _ _ _)⟩) (by assumption) ?_;simp only [Act.put,Zb,Zc,Zd];refine Zp (rs:=[9]) (by kernel_rfl) (by simp) ?_;refine Zl (o:=⟨some 8,.alloc 106,_,_,_,_⟩) rfl (fun K hK=>?_) Zo;refine st_alloc (by rfl) 106 rfl _ hzp.out ?_;intro g8 w9 hr6 hg6 hb;have HR89:=Za hr6;have HB9:=Za hb;have HS9:=Za (p:=Row w9 gd 80 DC∧Row w9 g7 99 (inl 128 W0)∧Row w9 g4 43 (ncs v)) ⟨HS8.out.1.kept hb,HS8.out.2.1.kept hb,HS8.out.2.2.kept hb⟩;have HG8:=Za (p:=w.heap.size≤g8∧g4<g8∧g6<g8∧g7<g8) (by rw [hg6.out];exact ⟨HC8.out.size,HR48.out.lt,HR68.out.lt,HR78.out.lt⟩);clear hr6 hg6 hb;refine hK.out _ _ HS9.out (fun _hH=>?_);clear hK K;refine Zp (rs:=[10]) (by kernel_rfl) (by simp) ?_;refine Zl (o:=⟨none,.store 106 (.tmp 8) (.tmp 33),_,_,_,_⟩) rfl (fun K hK=>?_) Zo;refine st_store (by rfl) 106 (.tmp 8) (.tmp 33) rfl g8 (by rfl) 106 _ (X'.S.cs++ptl W0 v26) (by rfl) HR89.out (by simp [Sup.cs_len,ptl,inl_len]) (i4.out _ _ _) (by intro u hu;rcases List.mem_append.1 hu with hu | hu;exact Sup.cs_one _ _ hu;unfold ptl at hu;rcases List.mem_append.1 hu with hu | hu;exact inl_one _ _ _ hu;rw [Zr] at hu;subst hu;rfl) ?_;intro w10 hr6 hg6;have HG9:=HG8.out;have HS10:=Za (p:=Row w10 gd 80 DC∧Row w10 g7 99 (inl 128 W0)∧Row w10 g4 43 (ncs v)) ⟨HS9.out.1.grown hg6 (fun e=>by have h2:=HLT.out;injection e;omega),HS9.out.2.1.grown hg6 (fun e=>by injection e;omega),HS9.out.2.2.grown hg6 (fun e=>by injection e;omega)⟩;have HW10:=Za (p:=WR w10 g4 g6 g7 g8 v W0 (X'.S.cs++ptl W0 v26)) ⟨HS10.out.2.2,(HR68.out.kept HB9.out).grown hg6 (fun e=>by injection e;omega),HS10.out.2.1,hr6⟩;have HK10:=Za ((HK8.out.below HB9.out).other HR89.out (by decide) (by have:=HLO.out;omega) (Chg.one hg6));have HC10:=Za (p:=Chg [gd] w w10) (chg_own (chg_nxt HC8.out HB9.out) HG9.1 (Chg.one hg6));clear hr6 hg6 HG9;refine hK.out _ _ HS10.out (fun _hH=>?_);clear hK K;refine Yg (by kernel_rfl) ?_ _;clear HK4 HC4 HK5 HC5 HK6 HC6 HK7 HC7 HR42 HR43 HR44 HR45 HR46 HR47 HR63 HR64 HR65 HR66 HR67 HR77 HS8 HS9 HS10 HRNG HD HR89 HR78 HR48 HR68 HK8 HC8 HB9
  cases ls with
  | false =>
    have HLL:=Za (p:=L2=0) HLS.out;by_cases hst:st=0
    · subst hst;have HXE:=Za (p:=X2=(X'.gives W0 R2 128).giveL v26 L2) (HX2.out.trans (if_neg (fun h=>h.1 rfl)))
      go_wp2_with (first
          | (go_at_call 51;refine (HBLK.out _).mono ?_;rintro e' w11 ⟨rfl,rfl⟩)
          | (refine step_clear_part rfl (.tmp 38) _ 3 rfl Tryz.underlying114 (.int .i64 0) zero_int rfl rfl g8 (387+e) (128 - e) (128 - e) (by rfl) (by have:=HE.out;omega) 106 (X'.S.cs++inl e W0) (inl (128 - e) (fun j=>W0 (e+j))) [.int .i64 v26] (by rw [← HTWO.out];exact HW10.out.r12) (by rw [Zf,Sup.cs_len,inl_len]) (inl_len _ _) ?_;intro w11 hr9 hg9;have HG9:=HG8.out
             have HW11:=Za (p:=WR w11 g4 g6 g7 g8 v W0 (X'.S.cs++ptl R2 v26)) ⟨HW10.out.r5.grown hg9 (fun e=>by injection e;omega),HW10.out.r8.grown hg9 (fun e=>by injection e;omega),HW10.out.r11.grown hg9 (fun e=>by injection e;omega),by rw [← HCUT.out];exact hr9⟩;have HK11:=Za (HK10.out.other HW10.out.r12 (by decide) (by have:=HLO.out;omega) (Chg.one hg9));have HC11:=Za (p:=Chg [gd] w w11) (chg_own HC10.out HG9.1 (Chg.one hg9));clear hr9 hg9 HG9)
          | (refine step_load_at rfl 99 (.tmp 39) rfl g8 387 (by rfl) 106 X'.S.cs (inl 128 R2) [.int .i64 v26] _ HW11.out.r12 (Sup.cs_len _) Yk rfl (i3.out _) ?_)
          | (go_at_call 52;refine (HLSD.out _).mono ?_;rintro e' w12 ⟨rfl,hb12⟩;have HW12:=Za (p:=WR w12 g4 g6 g7 g8 v W0 (X'.S.cs++ptl R2 v26)) (HW11.out.below hb12)
             have HK12:=Za (HK11.out.below hb12);have HC12:=Za (chg_nxt HC11.out hb12);have c515:w12.cell? ⟨g8,515,none⟩=some (.int .i64 v26):=by rw [HW12.out.r12.cell,Zm (by rw [Sup.cs_len];omega),Sup.cs_len];exact ptl_list R2 v26
             have f515:=HW12.out.r12.free 515
             have hp515:Row (w12.setCell ⟨g8,515,none⟩ (.int .i64 0)) g8 106 (X'.S.cs++ptl R2 L2):=by
               have h1:=HW12.out.r12.put 515 (.int .i64 0);rw [plan_setL] at h1;rw [HLL.out];exact h1
             have hc515:Chg [g8] w12 (w12.setCell ⟨g8,515,none⟩ (.int .i64 0)):=(Chg.refl [g8] w12).setCell (p:=⟨g8,515,none⟩) (.inl (by simp)) _;have hn515:=HG8.out;have HW13:=Za (p:=WR (w12.setCell ⟨g8,515,none⟩ (.int .i64 0)) g4 g6 g7 g8 v W0 (X'.S.cs++ptl R2 L2)) ⟨hc515.row HW12.out.r5 (by simp;omega),hc515.row HW12.out.r8 (by simp;omega),hc515.row HW12.out.r11 (by simp;omega),hp515⟩;have HK13:=Za (HK12.out.other HW12.out.r12 (by decide) (by have:=HLO.out;omega) hc515);have HC13:=Za (p:=Chg [gd] w (w12.setCell ⟨g8,515,none⟩ (.int .i64 0))) (chg_own HC12.out hn515.1 hc515);clear hp515 hc515 hn515;clear hb12)
          | (refine step_alloc rfl 12 rfl 110 rfl _ hzb.out ?_;intro g12 w14 hr8 hg8 hb8 hs8;have HR14:=Za hr8
             have HK14:=Za (HK13.out.below hb8);have HC14:=Za (p:=Chg [gd] w w14) (chg_nxt HC13.out hb8);have HW14:=Za (HW13.out.below hb8);have HG12:=Za (p:=w.heap.size≤g12∧g4<g12∧g6<g12∧g7<g12∧g8<g12) (by rw [hg8.out];exact ⟨HC13.out.size,HW13.out.r5.lt,HW13.out.r8.lt,HW13.out.r11.lt,HW13.out.r12.lt⟩);clear hr8 hg8 hb8 hs8 c515 f515)
          | (refine step_load rfl 60 rfl 43 (.tmp 4) rfl g4 rfl (ncs v) _ HW14.out.r5.all Yh rfl (i2.out _) ?_)
          | (refine step_load rfl 61 rfl 99 (.tmp 7) rfl g7 rfl (inl 128 W0) _ HW14.out.r11.all Yk rfl (i3.out _) ?_)
          | (go_at_call 54;refine (drelease v W0 R2 L2 X'.S g8 HK14.out HW14.out.r12 (by have:=HLO.out;have:=HG8.out;omega) HWB.out (by rw [HVE.out.1];exact HVE.out.2) (by rw [HVE.out.1];have:=HNN.out;omega)).mono ?_;rintro e' w17 ⟨rfl,hk,hc⟩;rw [HVE.out.1] at hk
             have h1:=HG4.out;have h2:=HG6.out;have h3:=HG7.out;have h4:=HG8.out;have h5:=HLT.out;have h6:=HG12.out;have HK17:=Za (hk.out);have HW17:=Za (HW14.out.chg hc.out (by simp;omega));have HC17:=Za (p:=Chg [gd,gm] w w17) ((HC14.out.wider (fun x hx=>.inl (by simp at hx ⊢;exact .inl hx))).trans hc.out (fun x hx=>.inl hx));clear hk hc h1 h2 h3 h4 h5 h6)
          | (refine step_load rfl 71 rfl 43 (.tmp 4) rfl g4 rfl (ncs v) _ HW17.out.r5.all Yh rfl (i2.out _) ?_)
          | (refine step_load rfl 72 rfl 99 (.tmp 7) rfl g7 rfl (inl 128 W0) _ HW17.out.r11.all Yk rfl (i3.out _) ?_)
          | (go_at_call 49;refine (dputlist (X2:=X3) v W0 R2 L2 X'.S g8 HK17.out HW17.out.r12 (by have:=HG8.out;have:=HLT.out;omega) HL2B.out (fun j hj=>HRB.out (16+j) (by omega)) (by have:=HNN.out;omega) (by rw [HVE.out.1, ← HXE.out];exact HPL.out)).mono ?_;rintro e' w19 ⟨rfl,hk,hc⟩;have h1:=HG4.out;have h2:=HG6.out;have h3:=HG7.out;have h4:=HG8.out;have h5:=HLT.out
             have HK19:=Za (p:=DK b w19 gd gv gm gs r Bs N (n+gvs W0 R2 128+gvL v26 L2+2) X3) (hk.out.mono (by omega));have HW19:=Za (HW17.out.chg hc.out (by simp;omega));have HC19:=Za (p:=Chg [gd,gm] w w19) (chg_same HC17.out hc.out);clear hk hc h1 h2 h3 h4 h5)
          | (refine step_load rfl 74 rfl 43 (.tmp 4) rfl g4 rfl (ncs v) _ HW19.out.r5.all Yh rfl (i2.out _) ?_)
          | (go_at_call 50;refine (told_any v R2 X'.S L2 (z:Int) g8 _ HW19.out.r12).mono ?_;rintro e' w20 ⟨rfl,hb⟩;have HK20:=Za (HK19.out.below hb)
             have HW20:=Za (HW19.out.below hb);have HC20:=Za (chg_nxt HC19.out hb);clear hb)
          | (refine step_store rfl 43 (.tmp 6) (.tmp 76) rfl g6 rfl _ _ (ncs (toldV v R2 L2 (z:Int))) rfl HW20.out.r8 rfl (i2.out _) (ncs_one _) ?_;intro w21 hr9 hg9 hs9;have HR21:=Za hr9
             have HK21:=Za (HK20.out.other HW20.out.r8 (by decide) (by have:=HLO.out;have:=HG6.out;omega) (Chg.one hg9));have HC21:=Za (p:=Chg [gd,gm] w w21) (chg_own HC20.out HG6.out.1 (Chg.one hg9));clear hr9 hg9 hs9))
      refine Yd (results_cell_row rfl _ _ g6 _ _ _ _ rfl HR21.out Yh rfl (by simpa using i2.out _)) rfl ?_;exact ⟨rfl,HK21,HC21⟩
    · have hst0 : (0:Int)<(st:Int):=by omega
      have hst1:0<st:=by omega
      obtain ⟨zl,hzl,hco⟩:=HCONT.out hst;have HZL:=Za (p:=W0 last=(zl:Int)∧Cont X' Bs zl f) ⟨hzl,hco⟩;have HZ2:=Za (p:=(zl:Int)≤255) (by rw [← hzl];exact (HWB.out last hl128n).2);have HST:=Za (p:=1≤st∧st≤255) ⟨by omega,by have:=HE.out;omega⟩;obtain ⟨fc,hfc⟩:∃ fc,cutF f st=fc:=⟨_,rfl⟩;have HFC:=Za hfc;obtain ⟨sm,hsm⟩:∃ sm,sameF f st=sm:=⟨_,rfl⟩;clear hzl hco
      cases sm with
      | true =>
        have HSAME:=Za hsm;have HXE:=Za (p:=X2=(X'.gives W0 R2 128).giveL v26 L2) (HX2.out.trans (if_neg (fun h=>by have h2:=h.2;rw [hsm] at h2;cases h2)));clear hsm hfc hst
        go_wp2_with (first
            | (go_at_call 51;refine (HBLK.out _).mono ?_;rintro e' w11 ⟨rfl,rfl⟩)
            | (refine step_clear_part rfl (.tmp 38) _ 3 rfl Tryz.underlying114 (.int .i64 0) zero_int rfl rfl g8 (387+e) (128 - e) (128 - e) (by rfl) (by have:=HE.out;omega) 106 (X'.S.cs++inl e W0) (inl (128 - e) (fun j=>W0 (e+j))) [.int .i64 v26] (by rw [← HTWO.out];exact HW10.out.r12) (by rw [Zf,Sup.cs_len,inl_len]) (inl_len _ _) ?_;intro w11 hr9 hg9;have HG9:=HG8.out
               have HW11:=Za (p:=WR w11 g4 g6 g7 g8 v W0 (X'.S.cs++ptl R2 v26)) ⟨HW10.out.r5.grown hg9 (fun e=>by injection e;omega),HW10.out.r8.grown hg9 (fun e=>by injection e;omega),HW10.out.r11.grown hg9 (fun e=>by injection e;omega),by rw [← HCUT.out];exact hr9⟩;have HK11:=Za (HK10.out.other HW10.out.r12 (by decide) (by have:=HLO.out;omega) (Chg.one hg9));have HC11:=Za (p:=Chg [gd] w w11) (chg_own HC10.out HG9.1 (Chg.one hg9));clear hr9 hg9 HG9)
            | (refine step_load_at rfl 99 (.tmp 39) rfl g8 387 (by rfl) 106 X'.S.cs (inl 128 R2) [.int .i64 v26] _ HW11.out.r12 (Sup.cs_len _) Yk rfl (i3.out _) ?_)
            | (go_at_call 52;refine (HLSD.out _).mono ?_;rintro e' w12 ⟨rfl,hb12⟩;have HW12:=Za (p:=WR w12 g4 g6 g7 g8 v W0 (X'.S.cs++ptl R2 v26)) (HW11.out.below hb12)
               have HK12:=Za (HK11.out.below hb12);have HC12:=Za (chg_nxt HC11.out hb12);have c515:w12.cell? ⟨g8,515,none⟩=some (.int .i64 v26):=by rw [HW12.out.r12.cell,Zm (by rw [Sup.cs_len];omega),Sup.cs_len];exact ptl_list R2 v26
               have f515:=HW12.out.r12.free 515
               have hp515:Row (w12.setCell ⟨g8,515,none⟩ (.int .i64 0)) g8 106 (X'.S.cs++ptl R2 L2):=by
                 have h1:=HW12.out.r12.put 515 (.int .i64 0);rw [plan_setL] at h1;rw [HLL.out];exact h1
               have hc515:Chg [g8] w12 (w12.setCell ⟨g8,515,none⟩ (.int .i64 0)):=(Chg.refl [g8] w12).setCell (p:=⟨g8,515,none⟩) (.inl (by simp)) _;have hn515:=HG8.out;have HW13:=Za (p:=WR (w12.setCell ⟨g8,515,none⟩ (.int .i64 0)) g4 g6 g7 g8 v W0 (X'.S.cs++ptl R2 L2)) ⟨hc515.row HW12.out.r5 (by simp;omega),hc515.row HW12.out.r8 (by simp;omega),hc515.row HW12.out.r11 (by simp;omega),hp515⟩;have HK13:=Za (HK12.out.other HW12.out.r12 (by decide) (by have:=HLO.out;omega) hc515);have HC13:=Za (p:=Chg [gd] w (w12.setCell ⟨g8,515,none⟩ (.int .i64 0))) (chg_own HC12.out hn515.1 hc515);clear hp515 hc515 hn515;clear hb12)
            | (refine step_alloc rfl 12 rfl 110 rfl _ hzb.out ?_;intro g12 w14 hr8 hg8 hb8 hs8;have HR14:=Za hr8
               have HK14:=Za (HK13.out.below hb8);have HC14:=Za (p:=Chg [gd] w w14) (chg_nxt HC13.out hb8);have HW14:=Za (HW13.out.below hb8);have HG12:=Za (p:=w.heap.size≤g12∧g4<g12∧g6<g12∧g7<g12∧g8<g12) (by rw [hg8.out];exact ⟨HC13.out.size,HW13.out.r5.lt,HW13.out.r8.lt,HW13.out.r11.lt,HW13.out.r12.lt⟩);have c7:w14.cell? ⟨g7,last,none⟩=some (.int .i64 (zl:Int)):=by rw [HW14.out.r11.cell,inl_get _ hl128n,HZL.out.1]
               clear hr8 hg8 hb8 hs8 c515 f515)
            | (go_at_call 53;refine (dshut zl st f HK14.out HZL.out.2 HST.out).mono ?_;rintro e' w15 ⟨rfl,hk,hc⟩;rw [HSAME.out,HFC.out]
               have hg9:=HG12.out;have hg10:=HLT.out;have HK15:=hk;have HC15:=Za (p:=Chg [gd] w w15) (chg_same HC14.out hc.out);have HW15:=Za (HW14.out.chg hc.out (by have h1:=HG4.out;have h2:=HG6.out;have h3:=HG7.out;have h4:=HG8.out;simp;omega));have HR15:=Za (hc.out.row HR14.out (by simp;omega));clear hk hc hg9 hg10 c7)
            | (refine step_store rfl 110 (.tmp 12) (.tmp 57) rfl g12 rfl _ _ (brr 256 fc) rfl HR15.out (by rw [brr_len,brr_len]) (i5.out _) (brr_one _ _) ?_;intro w16 hr9 hg9 hs9;have hg10:=HG12.out
               have HR16:=Za hr9;have HK16:=Za (HK15.out.other HR15.out (by decide) (by have:=HLO.out;omega) (Chg.one hg9));have HC16:=Za (p:=Chg [gd] w w16) (chg_own HC15.out hg10.1 (Chg.one hg9));have HW16:=Za (HW15.out.chg (Chg.one hg9) (by simp;omega));clear hr9 hg9 hs9 hg10)
            | (refine step_load rfl 60 rfl 43 (.tmp 4) rfl g4 rfl (ncs v) _ HW16.out.r5.all Yh rfl (i2.out _) ?_)
            | (refine step_load rfl 61 rfl 99 (.tmp 7) rfl g7 rfl (inl 128 W0) _ HW16.out.r11.all Yk rfl (i3.out _) ?_)
            | (go_at_call 54;refine (drelease v W0 R2 L2 X'.S g8 HK16.out HW16.out.r12 (by have:=HLO.out;have:=HG8.out;omega) HWB.out (by rw [HVE.out.1];exact HVE.out.2) (by rw [HVE.out.1];have:=HNN.out;omega)).mono ?_;rintro e' w17 ⟨rfl,hk,hc⟩;rw [HVE.out.1] at hk
               have h1:=HG4.out;have h2:=HG6.out;have h3:=HG7.out;have h4:=HG8.out;have h5:=HLT.out;have h6:=HG12.out;have HK17:=Za (hk.out);have HW17:=Za (HW16.out.chg hc.out (by simp;omega));have HC17:=Za (p:=Chg [gd,gm] w w17) ((HC16.out.wider (fun x hx=>.inl (by simp at hx ⊢;exact .inl hx))).trans hc.out (fun x hx=>.inl hx));clear hk hc h1 h2 h3 h4 h5 h6)
            | (refine step_load rfl 71 rfl 43 (.tmp 4) rfl g4 rfl (ncs v) _ HW17.out.r5.all Yh rfl (i2.out _) ?_)
            | (refine step_load rfl 72 rfl 99 (.tmp 7) rfl g7 rfl (inl 128 W0) _ HW17.out.r11.all Yk rfl (i3.out _) ?_)
            | (go_at_call 49;refine (dputlist (X2:=X3) v W0 R2 L2 X'.S g8 HK17.out HW17.out.r12 (by have:=HG8.out;have:=HLT.out;omega) HL2B.out (fun j hj=>HRB.out (16+j) (by omega)) (by have:=HNN.out;omega) (by rw [HVE.out.1, ← HXE.out];exact HPL.out)).mono ?_;rintro e' w19 ⟨rfl,hk,hc⟩;have h1:=HG4.out;have h2:=HG6.out;have h3:=HG7.out;have h4:=HG8.out;have h5:=HLT.out
               have HK19:=Za (p:=DK b w19 gd gv gm gs r Bs N (n+gvs W0 R2 128+gvL v26 L2+2) X3) (hk.out.mono (by omega));have HW19:=Za (HW17.out.chg hc.out (by simp;omega));have HC19:=Za (p:=Chg [gd,gm] w w19) (chg_same HC17.out hc.out);clear hk hc h1 h2 h3 h4 h5)
            | (refine step_load rfl 74 rfl 43 (.tmp 4) rfl g4 rfl (ncs v) _ HW19.out.r5.all Yh rfl (i2.out _) ?_)
            | (go_at_call 50;refine (told_any v R2 X'.S L2 (z:Int) g8 _ HW19.out.r12).mono ?_;rintro e' w20 ⟨rfl,hb⟩;have HK20:=Za (HK19.out.below hb)
               have HW20:=Za (HW19.out.below hb);have HC20:=Za (chg_nxt HC19.out hb);clear hb)
            | (refine step_store rfl 43 (.tmp 6) (.tmp 76) rfl g6 rfl _ _ (ncs (toldV v R2 L2 (z:Int))) rfl HW20.out.r8 rfl (i2.out _) (ncs_one _) ?_;intro w21 hr9 hg9 hs9;have HR21:=Za hr9
               have HK21:=Za (HK20.out.other HW20.out.r8 (by decide) (by have:=HLO.out;have:=HG6.out;omega) (Chg.one hg9));have HC21:=Za (p:=Chg [gd,gm] w w21) (chg_own HC20.out HG6.out.1 (Chg.one hg9));clear hr9 hg9 hs9))
        refine Yd (results_cell_row rfl _ _ g6 _ _ _ _ rfl HR21.out Yh rfl (by simpa using i2.out _)) rfl ?_;exact ⟨rfl,HK21,HC21⟩
      | false =>
        have HSAME:=Za hsm
        have HXE:=Za (p:=X2=((X'.gives W0 R2 128).giveL v26 L2).put (zl:Int) (lst 256 fc)) (by
          have h1:=HX2.out.trans (if_pos ⟨hst,hsm⟩);rw [HZL.out.1,hfc] at h1;exact h1)
        clear hsm hfc hst
        go_wp2_with (first
            | (go_at_call 51;refine (HBLK.out _).mono ?_;rintro e' w11 ⟨rfl,rfl⟩)
            | (refine step_clear_part rfl (.tmp 38) _ 3 rfl Tryz.underlying114 (.int .i64 0) zero_int rfl rfl g8 (387+e) (128 - e) (128 - e) (by rfl) (by have:=HE.out;omega) 106 (X'.S.cs++inl e W0) (inl (128 - e) (fun j=>W0 (e+j))) [.int .i64 v26] (by rw [← HTWO.out];exact HW10.out.r12) (by rw [Zf,Sup.cs_len,inl_len]) (inl_len _ _) ?_;intro w11 hr9 hg9;have HG9:=HG8.out
               have HW11:=Za (p:=WR w11 g4 g6 g7 g8 v W0 (X'.S.cs++ptl R2 v26)) ⟨HW10.out.r5.grown hg9 (fun e=>by injection e;omega),HW10.out.r8.grown hg9 (fun e=>by injection e;omega),HW10.out.r11.grown hg9 (fun e=>by injection e;omega),by rw [← HCUT.out];exact hr9⟩;have HK11:=Za (HK10.out.other HW10.out.r12 (by decide) (by have:=HLO.out;omega) (Chg.one hg9));have HC11:=Za (p:=Chg [gd] w w11) (chg_own HC10.out HG9.1 (Chg.one hg9));clear hr9 hg9 HG9)
            | (refine step_load_at rfl 99 (.tmp 39) rfl g8 387 (by rfl) 106 X'.S.cs (inl 128 R2) [.int .i64 v26] _ HW11.out.r12 (Sup.cs_len _) Yk rfl (i3.out _) ?_)
            | (go_at_call 52;refine (HLSD.out _).mono ?_;rintro e' w12 ⟨rfl,hb12⟩;have HW12:=Za (p:=WR w12 g4 g6 g7 g8 v W0 (X'.S.cs++ptl R2 v26)) (HW11.out.below hb12)
               have HK12:=Za (HK11.out.below hb12);have HC12:=Za (chg_nxt HC11.out hb12);have c515:w12.cell? ⟨g8,515,none⟩=some (.int .i64 v26):=by rw [HW12.out.r12.cell,Zm (by rw [Sup.cs_len];omega),Sup.cs_len];exact ptl_list R2 v26
               have f515:=HW12.out.r12.free 515
               have hp515:Row (w12.setCell ⟨g8,515,none⟩ (.int .i64 0)) g8 106 (X'.S.cs++ptl R2 L2):=by
                 have h1:=HW12.out.r12.put 515 (.int .i64 0);rw [plan_setL] at h1;rw [HLL.out];exact h1
               have hc515:Chg [g8] w12 (w12.setCell ⟨g8,515,none⟩ (.int .i64 0)):=(Chg.refl [g8] w12).setCell (p:=⟨g8,515,none⟩) (.inl (by simp)) _;have hn515:=HG8.out;have HW13:=Za (p:=WR (w12.setCell ⟨g8,515,none⟩ (.int .i64 0)) g4 g6 g7 g8 v W0 (X'.S.cs++ptl R2 L2)) ⟨hc515.row HW12.out.r5 (by simp;omega),hc515.row HW12.out.r8 (by simp;omega),hc515.row HW12.out.r11 (by simp;omega),hp515⟩;have HK13:=Za (HK12.out.other HW12.out.r12 (by decide) (by have:=HLO.out;omega) hc515);have HC13:=Za (p:=Chg [gd] w (w12.setCell ⟨g8,515,none⟩ (.int .i64 0))) (chg_own HC12.out hn515.1 hc515);clear hp515 hc515 hn515;clear hb12)
            | (refine step_alloc rfl 12 rfl 110 rfl _ hzb.out ?_;intro g12 w14 hr8 hg8 hb8 hs8;have HR14:=Za hr8
               have HK14:=Za (HK13.out.below hb8);have HC14:=Za (p:=Chg [gd] w w14) (chg_nxt HC13.out hb8);have HW14:=Za (HW13.out.below hb8);have HG12:=Za (p:=w.heap.size≤g12∧g4<g12∧g6<g12∧g7<g12∧g8<g12) (by rw [hg8.out];exact ⟨HC13.out.size,HW13.out.r5.lt,HW13.out.r8.lt,HW13.out.r11.lt,HW13.out.r12.lt⟩);have c7:w14.cell? ⟨g7,last,none⟩=some (.int .i64 (zl:Int)):=by rw [HW14.out.r11.cell,inl_get _ hl128n,HZL.out.1]
               clear hr8 hg8 hb8 hs8 c515 f515)
            | (go_at_call 53;refine (dshut zl st f HK14.out HZL.out.2 HST.out).mono ?_;rintro e' w15 ⟨rfl,hk,hc⟩;rw [HSAME.out,HFC.out]
               have hg9:=HG12.out;have hg10:=HLT.out;have HK15:=hk;have HC15:=Za (p:=Chg [gd] w w15) (chg_same HC14.out hc.out);have HW15:=Za (HW14.out.chg hc.out (by have h1:=HG4.out;have h2:=HG6.out;have h3:=HG7.out;have h4:=HG8.out;simp;omega));have HR15:=Za (hc.out.row HR14.out (by simp;omega));clear hk hc hg9 hg10 c7)
            | (refine step_store rfl 110 (.tmp 12) (.tmp 57) rfl g12 rfl _ _ (brr 256 fc) rfl HR15.out (by rw [brr_len,brr_len]) (i5.out _) (brr_one _ _) ?_;intro w16 hr9 hg9 hs9;have hg10:=HG12.out
               have HR16:=Za hr9;have HK16:=Za (HK15.out.other HR15.out (by decide) (by have:=HLO.out;omega) (Chg.one hg9));have HC16:=Za (p:=Chg [gd] w w16) (chg_own HC15.out hg10.1 (Chg.one hg9));have HW16:=Za (HW15.out.chg (Chg.one hg9) (by simp;omega));clear hr9 hg9 hs9 hg10)
            | (refine step_load rfl 60 rfl 43 (.tmp 4) rfl g4 rfl (ncs v) _ HW16.out.r5.all Yh rfl (i2.out _) ?_)
            | (refine step_load rfl 61 rfl 99 (.tmp 7) rfl g7 rfl (inl 128 W0) _ HW16.out.r11.all Yk rfl (i3.out _) ?_)
            | (go_at_call 54;refine (drelease v W0 R2 L2 X'.S g8 HK16.out HW16.out.r12 (by have:=HLO.out;have:=HG8.out;omega) HWB.out (by rw [HVE.out.1];exact HVE.out.2) (by rw [HVE.out.1];have:=HNN.out;omega)).mono ?_;rintro e' w17 ⟨rfl,hk,hc⟩;rw [HVE.out.1] at hk
               have h1:=HG4.out;have h2:=HG6.out;have h3:=HG7.out;have h4:=HG8.out;have h5:=HLT.out;have h6:=HG12.out;have HK17:=Za (hk.out.below (below_drw w17));have HW17:=Za ((HW16.out.chg hc.out (by simp;omega)).below (below_drw w17));have HC17:=Za (p:=Chg [gd,gm] w w17.drew) (chg_nxt ((HC16.out.wider (fun x hx=>.inl (by simp at hx ⊢;exact .inl hx))).trans hc.out (fun x hx=>.inl hx)) (below_drw w17));have HR17:=Za (p:=Row w17.drew g12 110 (brr 256 fc)) ((hc.out.row HR16.out (by simp;omega)).drew);have c7:w17.drew.cell? ⟨g7,last,none⟩=some (.int .i64 (zl:Int)):=by rw [HW17.out.r11.cell,inl_get _ hl128n,HZL.out.1]
               clear hk hc h1 h2 h3 h4 h5 h6))
        refine Zq (S:=fun W=>W.cell? ⟨g7,last,none⟩=some (.int .i64 (zl:Int))) (by kernel_rfl) c7 (fun hHeld=>?_);refine Ze (i:=0) (oi:=⟨some 64,.move (.tmp 0),_,_,_,_⟩) (v:=.pointer (some ⟨gd,0,none⟩)) rfl (by kernel_rfl) (by kernel_rfl) (by kernel_rfl) (fun _ _ _ h=>h) (.inl ⟨by rfl,fun w hSw=>by go_simp⟩) (by assumption) ?_;simp only [Act.put,Zb,Zc,Zd];refine Ze (i:=1) (oi:=⟨some 65,.move (.tmp 10),_,_,_,_⟩) (v:=.int .i64 (last:Int)) rfl (by kernel_rfl) (by kernel_rfl) (by kernel_rfl) (fun _ _ _ h=>h) (.inl ⟨by rfl,fun w hSw=>by go_simp⟩) (by assumption) ?_;simp only [Act.put,Zb,Zc,Zd];refine Ze (i:=2) (oi:=⟨some 66,.indexAddr 99 (.tmp 7) (.tmp 65),_,_,_,_⟩) (v:=.pointer (some ⟨g7,last,none⟩)) rfl (by kernel_rfl) (by kernel_rfl) (by kernel_rfl) (fun _ _ _ h=>h) (.inl ⟨by rfl,fun w hSw=>by go_simp⟩) (by assumption) ?_;simp only [Act.put,Zb,Zc,Zd];refine Ze (i:=3) (oi:=⟨some 67,.load 3 (.tmp 66),_,_,_,_⟩) (v:=.int .i64 (zl:Int)) rfl (by kernel_rfl) (by kernel_rfl) (by kernel_rfl) (fun _ _ _ h=>h) (.inl ⟨by rfl,fun w hSw=>by have z:=hSw;go_simp⟩) (by assumption) ?_;simp only [Act.put,Zb,Zc,Zd];refine Ze (i:=4) (oi:=⟨some 68,.slice 110 (.tmp 12) none none none,_,_,_,_⟩) (v:=.slice (some ⟨g12,0,none⟩) 256 256) rfl (by kernel_rfl) (by kernel_rfl) (by kernel_rfl) (fun _ _ _ h=>h) (.inl ⟨by rfl,fun w hSw=>by go_simp⟩) (by assumption) ?_;simp only [Act.put,Zb,Zc,Zd];refine Zp (rs:=[5]) (by kernel_rfl) (by simp) ?_;refine Zl (o:=⟨some 69,.call ⟨.value (.func 31),#[.tmp 64,.tmp 67,.tmp 68],_⟩,_,_,_,_⟩) rfl (fun K hK=>?_) Zo;have HPUT:=Za (dput HK17.out ⟨some ⟨g12,0,none⟩,256,lst 256 fc⟩ (blk_hol1 HR17.out) (by rw [lst_len];decide) (zl:Int) (by have:=HZL.out;have:=HZ2.out;unfold I64;omega) (by have:=HNN.out;omega));simp only [lst_len] at HPUT;go_simp;go_at_call 31;refine HPUT.out.mono ?_;rintro e' w18 ⟨rfl,hk,hc⟩;have h1:=HG4.out;have h2:=HG6.out;have h3:=HG7.out;have h4:=HG8.out;have h5:=HLT.out;have HK18:=hk;have HW18:=Za (HW17.out.chg hc.out (by simp;omega));have HC18:=Za (p:=Chg [gd,gm] w w18) (chg_same HC17.out hc.out);have c18:w18.cell? ⟨g7,last,none⟩=some (.int .i64 (zl:Int)):=by rw [HW18.out.r11.cell,inl_get _ hl128n,HZL.out.1]
        clear hk hc h1 h2 h3 h4 h5 HPUT;refine hK.out _ _ c18 (fun _hH=>?_);clear hK K;refine Yg (by kernel_rfl) ?_ _;clear c7 c18
        go_wp2_with (first
            | (refine step_load rfl 71 rfl 43 (.tmp 4) rfl g4 rfl (ncs v) _ HW18.out.r5.all Yh rfl (i2.out _) ?_)
            | (refine step_load rfl 72 rfl 99 (.tmp 7) rfl g7 rfl (inl 128 W0) _ HW18.out.r11.all Yk rfl (i3.out _) ?_)
            | (go_at_call 49;refine (dputlist (X2:=X3) v W0 R2 L2 X'.S g8 HK18.out HW18.out.r12 (by have:=HG8.out;have:=HLT.out;omega) HL2B.out (fun j hj=>HRB.out (16+j) (by omega)) (by have:=HNN.out;omega) (by rw [HVE.out.1, ← HXE.out];exact HPL.out)).mono ?_;rintro e' w19 ⟨rfl,hk,hc⟩;have h1:=HG4.out;have h2:=HG6.out;have h3:=HG7.out;have h4:=HG8.out;have h5:=HLT.out
               have HK19:=Za (p:=DK b w19 gd gv gm gs r Bs N (n+gvs W0 R2 128+gvL v26 L2+2) X3) (hk.out.mono (by omega));have HW19:=Za (HW18.out.chg hc.out (by simp;omega));have HC19:=Za (p:=Chg [gd,gm] w w19) (chg_same HC18.out hc.out);clear hk hc h1 h2 h3 h4 h5)
            | (refine step_load rfl 74 rfl 43 (.tmp 4) rfl g4 rfl (ncs v) _ HW19.out.r5.all Yh rfl (i2.out _) ?_)
            | (go_at_call 50;refine (told_any v R2 X'.S L2 (z:Int) g8 _ HW19.out.r12).mono ?_;rintro e' w20 ⟨rfl,hb⟩;have HK20:=Za (HK19.out.below hb)
               have HW20:=Za (HW19.out.below hb);have HC20:=Za (chg_nxt HC19.out hb);clear hb)
            | (refine step_store rfl 43 (.tmp 6) (.tmp 76) rfl g6 rfl _ _ (ncs (toldV v R2 L2 (z:Int))) rfl HW20.out.r8 rfl (i2.out _) (ncs_one _) ?_;intro w21 hr9 hg9 hs9;have HR21:=Za hr9
               have HK21:=Za (HK20.out.other HW20.out.r8 (by decide) (by have:=HLO.out;have:=HG6.out;omega) (Chg.one hg9));have HC21:=Za (p:=Chg [gd,gm] w w21) (chg_own HC20.out HG6.out.1 (Chg.one hg9));clear hr9 hg9 hs9))
        refine Yd (results_cell_row rfl _ _ g6 _ _ _ _ rfl HR21.out Yh rfl (by simpa using i2.out _)) rfl ?_;exact ⟨rfl,HK21,HC21⟩
  | true =>
    have HLL:=Za (p:=L2=v26) HLS.out;by_cases hst:st=0
    · subst hst;have HXE:=Za (p:=X2=(X'.gives W0 R2 128).giveL v26 L2) (HX2.out.trans (if_neg (fun h=>h.1 rfl)))
      go_wp2_with (first
          | (go_at_call 51;refine (HBLK.out _).mono ?_;rintro e' w11 ⟨rfl,rfl⟩)
          | (refine step_clear_part rfl (.tmp 38) _ 3 rfl Tryz.underlying114 (.int .i64 0) zero_int rfl rfl g8 (387+e) (128 - e) (128 - e) (by rfl) (by have:=HE.out;omega) 106 (X'.S.cs++inl e W0) (inl (128 - e) (fun j=>W0 (e+j))) [.int .i64 v26] (by rw [← HTWO.out];exact HW10.out.r12) (by rw [Zf,Sup.cs_len,inl_len]) (inl_len _ _) ?_;intro w11 hr9 hg9;have HG9:=HG8.out
             have HW11:=Za (p:=WR w11 g4 g6 g7 g8 v W0 (X'.S.cs++ptl R2 v26)) ⟨HW10.out.r5.grown hg9 (fun e=>by injection e;omega),HW10.out.r8.grown hg9 (fun e=>by injection e;omega),HW10.out.r11.grown hg9 (fun e=>by injection e;omega),by rw [← HCUT.out];exact hr9⟩;have HK11:=Za (HK10.out.other HW10.out.r12 (by decide) (by have:=HLO.out;omega) (Chg.one hg9));have HC11:=Za (p:=Chg [gd] w w11) (chg_own HC10.out HG9.1 (Chg.one hg9));clear hr9 hg9 HG9)
          | (refine step_load_at rfl 99 (.tmp 39) rfl g8 387 (by rfl) 106 X'.S.cs (inl 128 R2) [.int .i64 v26] _ HW11.out.r12 (Sup.cs_len _) Yk rfl (i3.out _) ?_)
          | (go_at_call 52;refine (HLSD.out _).mono ?_;rintro e' w12 ⟨rfl,hb12⟩;have HW12:=Za (p:=WR w12 g4 g6 g7 g8 v W0 (X'.S.cs++ptl R2 v26)) (HW11.out.below hb12)
             have HK12:=Za (HK11.out.below hb12);have HC12:=Za (chg_nxt HC11.out hb12);have HW13:=Za (p:=WR w12 g4 g6 g7 g8 v W0 (X'.S.cs++ptl R2 L2)) (by rw [HLL.out];exact HW12.out);have HK13:=HK12;have HC13:=HC12;clear hb12)
          | (refine step_alloc rfl 12 rfl 110 rfl _ hzb.out ?_;intro g12 w14 hr8 hg8 hb8 hs8;have HR14:=Za hr8
             have HK14:=Za (HK13.out.below hb8);have HC14:=Za (p:=Chg [gd] w w14) (chg_nxt HC13.out hb8);have HW14:=Za (HW13.out.below hb8);have HG12:=Za (p:=w.heap.size≤g12∧g4<g12∧g6<g12∧g7<g12∧g8<g12) (by rw [hg8.out];exact ⟨HC13.out.size,HW13.out.r5.lt,HW13.out.r8.lt,HW13.out.r11.lt,HW13.out.r12.lt⟩);clear hr8 hg8 hb8 hs8)
          | (refine step_load rfl 60 rfl 43 (.tmp 4) rfl g4 rfl (ncs v) _ HW14.out.r5.all Yh rfl (i2.out _) ?_)
          | (refine step_load rfl 61 rfl 99 (.tmp 7) rfl g7 rfl (inl 128 W0) _ HW14.out.r11.all Yk rfl (i3.out _) ?_)
          | (go_at_call 54;refine (drelease v W0 R2 L2 X'.S g8 HK14.out HW14.out.r12 (by have:=HLO.out;have:=HG8.out;omega) HWB.out (by rw [HVE.out.1];exact HVE.out.2) (by rw [HVE.out.1];have:=HNN.out;omega)).mono ?_;rintro e' w17 ⟨rfl,hk,hc⟩;rw [HVE.out.1] at hk
             have h1:=HG4.out;have h2:=HG6.out;have h3:=HG7.out;have h4:=HG8.out;have h5:=HLT.out;have h6:=HG12.out;have HK17:=Za (hk.out);have HW17:=Za (HW14.out.chg hc.out (by simp;omega));have HC17:=Za (p:=Chg [gd,gm] w w17) ((HC14.out.wider (fun x hx=>.inl (by simp at hx ⊢;exact .inl hx))).trans hc.out (fun x hx=>.inl hx));clear hk hc h1 h2 h3 h4 h5 h6)
          | (refine step_load rfl 71 rfl 43 (.tmp 4) rfl g4 rfl (ncs v) _ HW17.out.r5.all Yh rfl (i2.out _) ?_)
          | (refine step_load rfl 72 rfl 99 (.tmp 7) rfl g7 rfl (inl 128 W0) _ HW17.out.r11.all Yk rfl (i3.out _) ?_)
          | (go_at_call 49;refine (dputlist (X2:=X3) v W0 R2 L2 X'.S g8 HK17.out HW17.out.r12 (by have:=HG8.out;have:=HLT.out;omega) HL2B.out (fun j hj=>HRB.out (16+j) (by omega)) (by have:=HNN.out;omega) (by rw [HVE.out.1, ← HXE.out];exact HPL.out)).mono ?_;rintro e' w19 ⟨rfl,hk,hc⟩;have h1:=HG4.out;have h2:=HG6.out;have h3:=HG7.out;have h4:=HG8.out;have h5:=HLT.out
             have HK19:=Za (p:=DK b w19 gd gv gm gs r Bs N (n+gvs W0 R2 128+gvL v26 L2+2) X3) (hk.out.mono (by omega));have HW19:=Za (HW17.out.chg hc.out (by simp;omega));have HC19:=Za (p:=Chg [gd,gm] w w19) (chg_same HC17.out hc.out);clear hk hc h1 h2 h3 h4 h5)
          | (refine step_load rfl 74 rfl 43 (.tmp 4) rfl g4 rfl (ncs v) _ HW19.out.r5.all Yh rfl (i2.out _) ?_)
          | (go_at_call 50;refine (told_any v R2 X'.S L2 (z:Int) g8 _ HW19.out.r12).mono ?_;rintro e' w20 ⟨rfl,hb⟩;have HK20:=Za (HK19.out.below hb)
             have HW20:=Za (HW19.out.below hb);have HC20:=Za (chg_nxt HC19.out hb);clear hb)
          | (refine step_store rfl 43 (.tmp 6) (.tmp 76) rfl g6 rfl _ _ (ncs (toldV v R2 L2 (z:Int))) rfl HW20.out.r8 rfl (i2.out _) (ncs_one _) ?_;intro w21 hr9 hg9 hs9;have HR21:=Za hr9
             have HK21:=Za (HK20.out.other HW20.out.r8 (by decide) (by have:=HLO.out;have:=HG6.out;omega) (Chg.one hg9));have HC21:=Za (p:=Chg [gd,gm] w w21) (chg_own HC20.out HG6.out.1 (Chg.one hg9));clear hr9 hg9 hs9))
      refine Yd (results_cell_row rfl _ _ g6 _ _ _ _ rfl HR21.out Yh rfl (by simpa using i2.out _)) rfl ?_;exact ⟨rfl,HK21,HC21⟩
    · have hst0 :(0:Int)<(st:Int):=by omega
      have hst1:0<st:=by omega
      obtain ⟨zl,hzl,hco⟩:=HCONT.out hst;have HZL:=Za (p:=W0 last=(zl:Int)∧Cont X' Bs zl f) ⟨hzl,hco⟩;have HZ2:=Za (p:=(zl:Int)≤255) (by rw [← hzl];exact (HWB.out last hl128n).2);have HST:=Za (p:=1≤st∧st≤255) ⟨by omega,by have:=HE.out;omega⟩;obtain ⟨fc,hfc⟩:∃ fc,cutF f st=fc:=⟨_,rfl⟩;have HFC:=Za hfc;obtain ⟨sm,hsm⟩:∃ sm,sameF f st=sm:=⟨_,rfl⟩;clear hzl hco
      cases sm with
      | true =>
        have HSAME:=Za hsm;have HXE:=Za (p:=X2=(X'.gives W0 R2 128).giveL v26 L2) (HX2.out.trans (if_neg (fun h=>by have h2:=h.2;rw [hsm] at h2;cases h2)));clear hsm hfc hst
        go_wp2_with (first
            | (go_at_call 51;refine (HBLK.out _).mono ?_;rintro e' w11 ⟨rfl,rfl⟩)
            | (refine step_clear_part rfl (.tmp 38) _ 3 rfl Tryz.underlying114 (.int .i64 0) zero_int rfl rfl g8 (387+e) (128 - e) (128 - e) (by rfl) (by have:=HE.out;omega) 106 (X'.S.cs++inl e W0) (inl (128 - e) (fun j=>W0 (e+j))) [.int .i64 v26] (by rw [← HTWO.out];exact HW10.out.r12) (by rw [Zf,Sup.cs_len,inl_len]) (inl_len _ _) ?_;intro w11 hr9 hg9;have HG9:=HG8.out
               have HW11:=Za (p:=WR w11 g4 g6 g7 g8 v W0 (X'.S.cs++ptl R2 v26)) ⟨HW10.out.r5.grown hg9 (fun e=>by injection e;omega),HW10.out.r8.grown hg9 (fun e=>by injection e;omega),HW10.out.r11.grown hg9 (fun e=>by injection e;omega),by rw [← HCUT.out];exact hr9⟩;have HK11:=Za (HK10.out.other HW10.out.r12 (by decide) (by have:=HLO.out;omega) (Chg.one hg9));have HC11:=Za (p:=Chg [gd] w w11) (chg_own HC10.out HG9.1 (Chg.one hg9));clear hr9 hg9 HG9)
            | (refine step_load_at rfl 99 (.tmp 39) rfl g8 387 (by rfl) 106 X'.S.cs (inl 128 R2) [.int .i64 v26] _ HW11.out.r12 (Sup.cs_len _) Yk rfl (i3.out _) ?_)
            | (go_at_call 52;refine (HLSD.out _).mono ?_;rintro e' w12 ⟨rfl,hb12⟩;have HW12:=Za (p:=WR w12 g4 g6 g7 g8 v W0 (X'.S.cs++ptl R2 v26)) (HW11.out.below hb12)
               have HK12:=Za (HK11.out.below hb12);have HC12:=Za (chg_nxt HC11.out hb12);have HW13:=Za (p:=WR w12 g4 g6 g7 g8 v W0 (X'.S.cs++ptl R2 L2)) (by rw [HLL.out];exact HW12.out);have HK13:=HK12;have HC13:=HC12;clear hb12)
            | (refine step_alloc rfl 12 rfl 110 rfl _ hzb.out ?_;intro g12 w14 hr8 hg8 hb8 hs8;have HR14:=Za hr8
               have HK14:=Za (HK13.out.below hb8);have HC14:=Za (p:=Chg [gd] w w14) (chg_nxt HC13.out hb8);have HW14:=Za (HW13.out.below hb8);have HG12:=Za (p:=w.heap.size≤g12∧g4<g12∧g6<g12∧g7<g12∧g8<g12) (by rw [hg8.out];exact ⟨HC13.out.size,HW13.out.r5.lt,HW13.out.r8.lt,HW13.out.r11.lt,HW13.out.r12.lt⟩);have c7:w14.cell? ⟨g7,last,none⟩=some (.int .i64 (zl:Int)):=by rw [HW14.out.r11.cell,inl_get _ hl128n,HZL.out.1]
               clear hr8 hg8 hb8 hs8)
            | (go_at_call 53;refine (dshut zl st f HK14.out HZL.out.2 HST.out).mono ?_;rintro e' w15 ⟨rfl,hk,hc⟩;rw [HSAME.out,HFC.out]
               have hg9:=HG12.out;have hg10:=HLT.out;have HK15:=hk;have HC15:=Za (p:=Chg [gd] w w15) (chg_same HC14.out hc.out);have HW15:=Za (HW14.out.chg hc.out (by have h1:=HG4.out;have h2:=HG6.out;have h3:=HG7.out;have h4:=HG8.out;simp;omega));have HR15:=Za (hc.out.row HR14.out (by simp;omega));clear hk hc hg9 hg10 c7)
            | (refine step_store rfl 110 (.tmp 12) (.tmp 57) rfl g12 rfl _ _ (brr 256 fc) rfl HR15.out (by rw [brr_len,brr_len]) (i5.out _) (brr_one _ _) ?_;intro w16 hr9 hg9 hs9;have hg10:=HG12.out
               have HR16:=Za hr9;have HK16:=Za (HK15.out.other HR15.out (by decide) (by have:=HLO.out;omega) (Chg.one hg9));have HC16:=Za (p:=Chg [gd] w w16) (chg_own HC15.out hg10.1 (Chg.one hg9));have HW16:=Za (HW15.out.chg (Chg.one hg9) (by simp;omega));clear hr9 hg9 hs9 hg10)
            | (refine step_load rfl 60 rfl 43 (.tmp 4) rfl g4 rfl (ncs v) _ HW16.out.r5.all Yh rfl (i2.out _) ?_)
            | (refine step_load rfl 61 rfl 99 (.tmp 7) rfl g7 rfl (inl 128 W0) _ HW16.out.r11.all Yk rfl (i3.out _) ?_)
            | (go_at_call 54;refine (drelease v W0 R2 L2 X'.S g8 HK16.out HW16.out.r12 (by have:=HLO.out;have:=HG8.out;omega) HWB.out (by rw [HVE.out.1];exact HVE.out.2) (by rw [HVE.out.1];have:=HNN.out;omega)).mono ?_;rintro e' w17 ⟨rfl,hk,hc⟩;rw [HVE.out.1] at hk
               have h1:=HG4.out;have h2:=HG6.out;have h3:=HG7.out;have h4:=HG8.out;have h5:=HLT.out;have h6:=HG12.out;have HK17:=Za (hk.out);have HW17:=Za (HW16.out.chg hc.out (by simp;omega));have HC17:=Za (p:=Chg [gd,gm] w w17) ((HC16.out.wider (fun x hx=>.inl (by simp at hx ⊢;exact .inl hx))).trans hc.out (fun x hx=>.inl hx));clear hk hc h1 h2 h3 h4 h5 h6)
            | (refine step_load rfl 71 rfl 43 (.tmp 4) rfl g4 rfl (ncs v) _ HW17.out.r5.all Yh rfl (i2.out _) ?_)
            | (refine step_load rfl 72 rfl 99 (.tmp 7) rfl g7 rfl (inl 128 W0) _ HW17.out.r11.all Yk rfl (i3.out _) ?_)
            | (go_at_call 49;refine (dputlist (X2:=X3) v W0 R2 L2 X'.S g8 HK17.out HW17.out.r12 (by have:=HG8.out;have:=HLT.out;omega) HL2B.out (fun j hj=>HRB.out (16+j) (by omega)) (by have:=HNN.out;omega) (by rw [HVE.out.1, ← HXE.out];exact HPL.out)).mono ?_;rintro e' w19 ⟨rfl,hk,hc⟩;have h1:=HG4.out;have h2:=HG6.out;have h3:=HG7.out;have h4:=HG8.out;have h5:=HLT.out
               have HK19:=Za (p:=DK b w19 gd gv gm gs r Bs N (n+gvs W0 R2 128+gvL v26 L2+2) X3) (hk.out.mono (by omega));have HW19:=Za (HW17.out.chg hc.out (by simp;omega));have HC19:=Za (p:=Chg [gd,gm] w w19) (chg_same HC17.out hc.out);clear hk hc h1 h2 h3 h4 h5)
            | (refine step_load rfl 74 rfl 43 (.tmp 4) rfl g4 rfl (ncs v) _ HW19.out.r5.all Yh rfl (i2.out _) ?_)
            | (go_at_call 50;refine (told_any v R2 X'.S L2 (z:Int) g8 _ HW19.out.r12).mono ?_;rintro e' w20 ⟨rfl,hb⟩;have HK20:=Za (HK19.out.below hb)
               have HW20:=Za (HW19.out.below hb);have HC20:=Za (chg_nxt HC19.out hb);clear hb)
            | (refine step_store rfl 43 (.tmp 6) (.tmp 76) rfl g6 rfl _ _ (ncs (toldV v R2 L2 (z:Int))) rfl HW20.out.r8 rfl (i2.out _) (ncs_one _) ?_;intro w21 hr9 hg9 hs9;have HR21:=Za hr9
               have HK21:=Za (HK20.out.other HW20.out.r8 (by decide) (by have:=HLO.out;have:=HG6.out;omega) (Chg.one hg9));have HC21:=Za (p:=Chg [gd,gm] w w21) (chg_own HC20.out HG6.out.1 (Chg.one hg9));clear hr9 hg9 hs9))
        refine Yd (results_cell_row rfl _ _ g6 _ _ _ _ rfl HR21.out Yh rfl (by simpa using i2.out _)) rfl ?_;exact ⟨rfl,HK21,HC21⟩
      | false =>
        have HSAME:=Za hsm
        have HXE:=Za (p:=X2=((X'.gives W0 R2 128).giveL v26 L2).put (zl:Int) (lst 256 fc)) (by
          have h1:=HX2.out.trans (if_pos ⟨hst,hsm⟩);rw [HZL.out.1,hfc] at h1;exact h1)
        clear hsm hfc hst
        go_wp2_with (first
            | (go_at_call 51;refine (HBLK.out _).mono ?_;rintro e' w11 ⟨rfl,rfl⟩)
            | (refine step_clear_part rfl (.tmp 38) _ 3 rfl Tryz.underlying114 (.int .i64 0) zero_int rfl rfl g8 (387+e) (128 - e) (128 - e) (by rfl) (by have:=HE.out;omega) 106 (X'.S.cs++inl e W0) (inl (128 - e) (fun j=>W0 (e+j))) [.int .i64 v26] (by rw [← HTWO.out];exact HW10.out.r12) (by rw [Zf,Sup.cs_len,inl_len]) (inl_len _ _) ?_;intro w11 hr9 hg9;have HG9:=HG8.out
               have HW11:=Za (p:=WR w11 g4 g6 g7 g8 v W0 (X'.S.cs++ptl R2 v26)) ⟨HW10.out.r5.grown hg9 (fun e=>by injection e;omega),HW10.out.r8.grown hg9 (fun e=>by injection e;omega),HW10.out.r11.grown hg9 (fun e=>by injection e;omega),by rw [← HCUT.out];exact hr9⟩;have HK11:=Za (HK10.out.other HW10.out.r12 (by decide) (by have:=HLO.out;omega) (Chg.one hg9));have HC11:=Za (p:=Chg [gd] w w11) (chg_own HC10.out HG9.1 (Chg.one hg9));clear hr9 hg9 HG9)
            | (refine step_load_at rfl 99 (.tmp 39) rfl g8 387 (by rfl) 106 X'.S.cs (inl 128 R2) [.int .i64 v26] _ HW11.out.r12 (Sup.cs_len _) Yk rfl (i3.out _) ?_)
            | (go_at_call 52;refine (HLSD.out _).mono ?_;rintro e' w12 ⟨rfl,hb12⟩;have HW12:=Za (p:=WR w12 g4 g6 g7 g8 v W0 (X'.S.cs++ptl R2 v26)) (HW11.out.below hb12)
               have HK12:=Za (HK11.out.below hb12);have HC12:=Za (chg_nxt HC11.out hb12);have HW13:=Za (p:=WR w12 g4 g6 g7 g8 v W0 (X'.S.cs++ptl R2 L2)) (by rw [HLL.out];exact HW12.out);have HK13:=HK12;have HC13:=HC12;clear hb12)
            | (refine step_alloc rfl 12 rfl 110 rfl _ hzb.out ?_;intro g12 w14 hr8 hg8 hb8 hs8;have HR14:=Za hr8
               have HK14:=Za (HK13.out.below hb8);have HC14:=Za (p:=Chg [gd] w w14) (chg_nxt HC13.out hb8);have HW14:=Za (HW13.out.below hb8);have HG12:=Za (p:=w.heap.size≤g12∧g4<g12∧g6<g12∧g7<g12∧g8<g12) (by rw [hg8.out];exact ⟨HC13.out.size,HW13.out.r5.lt,HW13.out.r8.lt,HW13.out.r11.lt,HW13.out.r12.lt⟩);have c7:w14.cell? ⟨g7,last,none⟩=some (.int .i64 (zl:Int)):=by rw [HW14.out.r11.cell,inl_get _ hl128n,HZL.out.1]
               clear hr8 hg8 hb8 hs8)
            | (go_at_call 53;refine (dshut zl st f HK14.out HZL.out.2 HST.out).mono ?_;rintro e' w15 ⟨rfl,hk,hc⟩;rw [HSAME.out,HFC.out]
               have hg9:=HG12.out;have hg10:=HLT.out;have HK15:=hk;have HC15:=Za (p:=Chg [gd] w w15) (chg_same HC14.out hc.out);have HW15:=Za (HW14.out.chg hc.out (by have h1:=HG4.out;have h2:=HG6.out;have h3:=HG7.out;have h4:=HG8.out;simp;omega));have HR15:=Za (hc.out.row HR14.out (by simp;omega));clear hk hc hg9 hg10 c7)
            | (refine step_store rfl 110 (.tmp 12) (.tmp 57) rfl g12 rfl _ _ (brr 256 fc) rfl HR15.out (by rw [brr_len,brr_len]) (i5.out _) (brr_one _ _) ?_;intro w16 hr9 hg9 hs9;have hg10:=HG12.out
               have HR16:=Za hr9;have HK16:=Za (HK15.out.other HR15.out (by decide) (by have:=HLO.out;omega) (Chg.one hg9));have HC16:=Za (p:=Chg [gd] w w16) (chg_own HC15.out hg10.1 (Chg.one hg9));have HW16:=Za (HW15.out.chg (Chg.one hg9) (by simp;omega));clear hr9 hg9 hs9 hg10)
            | (refine step_load rfl 60 rfl 43 (.tmp 4) rfl g4 rfl (ncs v) _ HW16.out.r5.all Yh rfl (i2.out _) ?_)
            | (refine step_load rfl 61 rfl 99 (.tmp 7) rfl g7 rfl (inl 128 W0) _ HW16.out.r11.all Yk rfl (i3.out _) ?_)
            | (go_at_call 54;refine (drelease v W0 R2 L2 X'.S g8 HK16.out HW16.out.r12 (by have:=HLO.out;have:=HG8.out;omega) HWB.out (by rw [HVE.out.1];exact HVE.out.2) (by rw [HVE.out.1];have:=HNN.out;omega)).mono ?_;rintro e' w17 ⟨rfl,hk,hc⟩;rw [HVE.out.1] at hk
               have h1:=HG4.out;have h2:=HG6.out;have h3:=HG7.out;have h4:=HG8.out;have h5:=HLT.out;have h6:=HG12.out;have HK17:=Za (hk.out.below (below_drw w17));have HW17:=Za ((HW16.out.chg hc.out (by simp;omega)).below (below_drw w17));have HC17:=Za (p:=Chg [gd,gm] w w17.drew) (chg_nxt ((HC16.out.wider (fun x hx=>.inl (by simp at hx ⊢;exact .inl hx))).trans hc.out (fun x hx=>.inl hx)) (below_drw w17));have HR17:=Za (p:=Row w17.drew g12 110 (brr 256 fc)) ((hc.out.row HR16.out (by simp;omega)).drew);have c7:w17.drew.cell? ⟨g7,last,none⟩=some (.int .i64 (zl:Int)):=by rw [HW17.out.r11.cell,inl_get _ hl128n,HZL.out.1]
               clear hk hc h1 h2 h3 h4 h5 h6))
        refine Zq (S:=fun W=>W.cell? ⟨g7,last,none⟩=some (.int .i64 (zl:Int))) (by kernel_rfl) c7 (fun hHeld=>?_);refine Ze (i:=0) (oi:=⟨some 64,.move (.tmp 0),_,_,_,_⟩) (v:=.pointer (some ⟨gd,0,none⟩)) rfl (by kernel_rfl) (by kernel_rfl) (by kernel_rfl) (fun _ _ _ h=>h) (.inl ⟨by rfl,fun w hSw=>by go_simp⟩) (by assumption) ?_;simp only [Act.put,Zb,Zc,Zd];refine Ze (i:=1) (oi:=⟨some 65,.move (.tmp 10),_,_,_,_⟩) (v:=.int .i64 (last:Int)) rfl (by kernel_rfl) (by kernel_rfl) (by kernel_rfl) (fun _ _ _ h=>h) (.inl ⟨by rfl,fun w hSw=>by go_simp⟩) (by assumption) ?_;simp only [Act.put,Zb,Zc,Zd];refine Ze (i:=2) (oi:=⟨some 66,.indexAddr 99 (.tmp 7) (.tmp 65),_,_,_,_⟩) (v:=.pointer (some ⟨g7,last,none⟩)) rfl (by kernel_rfl) (by kernel_rfl) (by kernel_rfl) (fun _ _ _ h=>h) (.inl ⟨by rfl,fun w hSw=>by go_simp⟩) (by assumption) ?_;simp only [Act.put,Zb,Zc,Zd];refine Ze (i:=3) (oi:=⟨some 67,.load 3 (.tmp 66),_,_,_,_⟩) (v:=.int .i64 (zl:Int)) rfl (by kernel_rfl) (by kernel_rfl) (by kernel_rfl) (fun _ _ _ h=>h) (.inl ⟨by rfl,fun w hSw=>by have z:=hSw;go_simp⟩) (by assumption) ?_;simp only [Act.put,Zb,Zc,Zd];refine Ze (i:=4) (oi:=⟨some 68,.slice 110 (.tmp 12) none none none,_,_,_,_⟩) (v:=.slice (some ⟨g12,0,none⟩) 256 256) rfl (by kernel_rfl) (by kernel_rfl) (by kernel_rfl) (fun _ _ _ h=>h) (.inl ⟨by rfl,fun w hSw=>by go_simp⟩) (by assumption) ?_;simp only [Act.put,Zb,Zc,Zd];refine Zp (rs:=[5]) (by kernel_rfl) (by simp) ?_;refine Zl (o:=⟨some 69,.call ⟨.value (.func 31),#[.tmp 64,.tmp 67,.tmp 68],_⟩,_,_,_,_⟩) rfl (fun K hK=>?_) Zo;have HPUT:=Za (dput HK17.out ⟨some ⟨g12,0,none⟩,256,lst 256 fc⟩ (blk_hol1 HR17.out) (by rw [lst_len];decide) (zl:Int) (by have:=HZL.out;have:=HZ2.out;unfold I64;omega) (by have:=HNN.out;omega));simp only [lst_len] at HPUT;go_simp;go_at_call 31;refine HPUT.out.mono ?_;rintro e' w18 ⟨rfl,hk,hc⟩;have h1:=HG4.out;have h2:=HG6.out;have h3:=HG7.out;have h4:=HG8.out;have h5:=HLT.out;have HK18:=hk;have HW18:=Za (HW17.out.chg hc.out (by simp;omega));have HC18:=Za (p:=Chg [gd,gm] w w18) (chg_same HC17.out hc.out);have c18:w18.cell? ⟨g7,last,none⟩=some (.int .i64 (zl:Int)):=by rw [HW18.out.r11.cell,inl_get _ hl128n,HZL.out.1]
        clear hk hc h1 h2 h3 h4 h5 HPUT;refine hK.out _ _ c18 (fun _hH=>?_);clear hK K;refine Yg (by kernel_rfl) ?_ _;clear c7 c18
        go_wp2_with (first
            | (refine step_load rfl 71 rfl 43 (.tmp 4) rfl g4 rfl (ncs v) _ HW18.out.r5.all Yh rfl (i2.out _) ?_)
            | (refine step_load rfl 72 rfl 99 (.tmp 7) rfl g7 rfl (inl 128 W0) _ HW18.out.r11.all Yk rfl (i3.out _) ?_)
            | (go_at_call 49;refine (dputlist (X2:=X3) v W0 R2 L2 X'.S g8 HK18.out HW18.out.r12 (by have:=HG8.out;have:=HLT.out;omega) HL2B.out (fun j hj=>HRB.out (16+j) (by omega)) (by have:=HNN.out;omega) (by rw [HVE.out.1, ← HXE.out];exact HPL.out)).mono ?_;rintro e' w19 ⟨rfl,hk,hc⟩;have h1:=HG4.out;have h2:=HG6.out;have h3:=HG7.out;have h4:=HG8.out;have h5:=HLT.out
               have HK19:=Za (p:=DK b w19 gd gv gm gs r Bs N (n+gvs W0 R2 128+gvL v26 L2+2) X3) (hk.out.mono (by omega));have HW19:=Za (HW18.out.chg hc.out (by simp;omega));have HC19:=Za (p:=Chg [gd,gm] w w19) (chg_same HC18.out hc.out);clear hk hc h1 h2 h3 h4 h5)
            | (refine step_load rfl 74 rfl 43 (.tmp 4) rfl g4 rfl (ncs v) _ HW19.out.r5.all Yh rfl (i2.out _) ?_)
            | (go_at_call 50;refine (told_any v R2 X'.S L2 (z:Int) g8 _ HW19.out.r12).mono ?_;rintro e' w20 ⟨rfl,hb⟩;have HK20:=Za (HK19.out.below hb)
               have HW20:=Za (HW19.out.below hb);have HC20:=Za (chg_nxt HC19.out hb);clear hb)
            | (refine step_store rfl 43 (.tmp 6) (.tmp 76) rfl g6 rfl _ _ (ncs (toldV v R2 L2 (z:Int))) rfl HW20.out.r8 rfl (i2.out _) (ncs_one _) ?_;intro w21 hr9 hg9 hs9;have HR21:=Za hr9
               have HK21:=Za (HK20.out.other HW20.out.r8 (by decide) (by have:=HLO.out;have:=HG6.out;omega) (Chg.one hg9));have HC21:=Za (p:=Chg [gd,gm] w w21) (chg_own HC20.out HG6.out.1 (Chg.one hg9));clear hr9 hg9 hs9))
        refine Yd (results_cell_row rfl _ _ g6 _ _ _ _ rfl HR21.out Yh rfl (by simpa using i2.out _)) rfl ?_;exact ⟨rfl,HK21,HC21⟩
end
end Go.Proofs.YtijffkklhgnknaaGreatDoor
