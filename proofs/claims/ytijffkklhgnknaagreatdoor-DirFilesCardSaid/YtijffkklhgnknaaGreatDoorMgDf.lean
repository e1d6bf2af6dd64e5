/- A desk's inodes: one got by its name, one more made. Conditions: the desk lies there. -/
import Derived.Test.YtijffkklhgnknaaGreatDoorAz
import Derived.Test.YtijffkklhgnknaaGreatDoorMgDd
import Derived.Test.YtijffkklhgnknaaGreatDoorMgEi
set_option maxHeartbeats 20000000
set_option linter.unusedVariables false
set_option maxRecDepth 20000
namespace Go.Proofs.YtijffkklhgnknaaGreatDoor
open Go.RowKit
def rfc (k s:Nat):List Value:=[.int .i64 (k:Int),.int .u64 (s:Int)]
theorem info_ref (k s:Nat):(Tryz.prog.info? 36).map (·.size)=some (rfc k s).length:=by
  have h:(Tryz.prog.info? 36).map (·.size)=some 2:=by kernel_rfl
  exact h
theorem rfc_one (k s:Nat):∀ v ∈ rfc k s,v.oneCell'=true:=by
  intro v hv;simp [rfc] at hv;rcases hv with rfl | rfl <;> rfl
theorem zero_ref (w:World):(zeroValue 36).run Tryz.prog w=.ok (.agg (rfc 0 0).toArray) w:=by kernel_rfl
theorem built_ref (k s:Nat):Tryz.prog.built 36 [(0,.int .i64 (k:Int)),(1,.int .u64 (s:Int))]=some (rfc k s).toArray:=by kernel_rfl
section
variable {b:Nat} {w w':World} {gd gv gm gs r:Nat} {Bs:List BV} {N n:Nat} {X X':DX}
theorem dget_ok (k s:Nat) (hk:1≤k∧k≤64) (h:DK b w gd gv gm gs r Bs N n X) (hL:LdR Bs X X') (hn:n≤3000) (z:Nat) (hz:X'.S.i k=(z:Int)) (hz0:0<z∧z<256) (l:L8) (hl:seeX X' Bs z=some l) (hlen:l.length≤3000) (v:Nat→Int) (hU:iV (norm l)=.tuple #[.agg (ncs v).toArray,.int .i64 0]) (hv:v 6=(s:Int)):Calls Tryz.prog 12 #[.pointer (some ⟨gd,0,none⟩),.agg (rfc k s).toArray] w (DOne b w gd gv gm gs r Bs N n X' (.tuple #[.agg (ncs v).toArray,.int .i64 0])):=by
  have HBG:=Za (hbegin h hn);have HLT:=Za h.lt;have HLO:=Za h.lo;have HL:=Za hL;have HKK:=Za hk;have i1:=Za (fun v=>info_ncs v);have i2:=Za (fun k s=>info_ref k s);have hzi:=Za zero_ino;have HZ:=Za hz;have HSEE:=Za (p:=I64 (z:Int)∧seeX X' Bs z=some l∧l.length≤3000) ⟨by unfold I64;omega,hl,hlen⟩;have HU:=Za hU;have hzz:((z:Int)==0)=false:=beq_false_of_ne (by omega);obtain ⟨v6,hv6⟩:∃ v6,v 6=v6:=⟨_,rfl⟩;have hcmp:(v6 !=(s:Int))=false:=by rw [← hv6];simp [hv]
  have HV6:=Za hv6;clear hv hv6;clear h hL hn hk hz hl hlen hU hz0;go_enter Tryz.func12,Tryz.ntmps12
  go_wp2_with (first
    | (refine step_box rfl 3 rfl 36 (.tmp 1) rfl (rfc k s) rfl ?_;intro g3 w2 hr2 hg2 hb2 hs2;have HR32:=Za hr2
       have HB2:=Za hb2;have HG3:=Za (p:=w.heap.size≤g3) (Nat.le_of_eq hg2.out.symm);clear hr2 hg2 hb2 hs2)
    | (refine step_alloc rfl 4 rfl 43 rfl _ hzi.out ?_;intro g4 w3 hr3 hg3 hb3 hs3;have HR43:=Za hr3
       have HR33:=Za (HR32.out.kept hb3);have HB3:=Za (below_nxt hb3 HB2.out);have HG4:=Za (p:=w.heap.size≤g4) (by rw [hg3.out];exact HB2.out.size);clear hr3 hg3 hb3 hs3)
    | (go_at_call 27;refine (HBG.out _ HB3.out).mono ?_;rintro e w4 ⟨rfl,hk,hc⟩;have HK4:=hk
       have HC4:=Za (p:=Chg [gd] w w4) ((Chg.of (F:=[gd]) HB3.out).trans hc.out (fun x hx=>.inl hx));have HR34:=Za (hc.out.row HR33.out (by have h1:=HLT.out;have h2:=HG3.out;simp;omega));have HR44:=Za (hc.out.row HR43.out (by have h1:=HLT.out;have h2:=HG4.out;simp;omega));have c30:w4.cell? ⟨g3,0,none⟩=some (.int .i64 (k:Int)):=(HR34.out.cell 0).trans rfl;clear hk hc)
    | (go_at_call 32;refine (dslot k HKK.out HK4.out HL.out).mono ?_;rintro e w5 ⟨rfl,hk,hc⟩;have HK5:=hk
       have HC5:=Za (p:=Chg [gd] w w5) (chg_same HC4.out hc.out);have HR35:=Za (hc.out.row HR34.out (by have h1:=HLT.out;have h2:=HG3.out;simp;omega));have HR45:=Za (hc.out.row HR44.out (by have h1:=HLT.out;have h2:=HG4.out;simp;omega));rw [HZ.out];clear hk hc c30)
    | (go_at_call 34;refine (dsee HK5.out (z:Int) HSEE.out.1 l HSEE.out.2.1 HSEE.out.2.2).mono ?_;rintro e w6 ⟨y,rfl,hy,ho,hk,hc⟩;have HK6:=hk
       have HC6:=Za (p:=Chg [gd] w w6) (chg_same HC5.out hc.out);have HR36:=Za (hc.out.row HR35.out (by have h1:=HLT.out;have h2:=HG3.out;simp;omega));have HR46:=Za (hc.out.row HR45.out (by have h1:=HLT.out;have h2:=HG4.out;simp;omega));have HY:=hy;have HO:=ho;clear hy ho hk hc)
    | (go_at_call 33;refine (unpack_any y.A _ y.c y.l rfl (by rw [HY.out];have:=norm_len HSEE.out.2.2;omega) _ HO.out.hol).mono ?_;rintro e w7 ⟨rfl,hb⟩;rw [HY.out,HU.out]
       have HK7:=Za (HK6.out.below hb);have HC7:=Za (chg_nxt HC6.out hb);have HR37:=Za (HR36.out.kept hb);have HR47:=Za (HR46.out.kept hb);clear hb)
    | (refine step_alloc rfl 7 rfl 43 rfl _ hzi.out ?_;intro g7 w8 hr8 hg8 hb8 hs8;have HR78:=Za hr8
       have HK8:=Za (HK7.out.below hb8);have HC8:=Za (chg_nxt HC7.out hb8);have HR38:=Za (HR37.out.kept hb8);have HR48:=Za (HR47.out.kept hb8);have HG7:=Za (p:=w.heap.size≤g7∧g4<g7∧g3<g7) (by rw [hg8.out];exact ⟨HC7.out.size,HR47.out.lt,HR37.out.lt⟩);clear hr8 hg8 hb8 hs8)
    | (refine step_store rfl 43 (.tmp 7) (.tmp 23) rfl g7 rfl _ _ (ncs v) rfl HR78.out rfl (i1.out _) (ncs_one _) ?_;intro w9 hr9 hg9 hs9;have HR79:=Za hr9
       have HK9:=Za (HK8.out.other HR78.out (by decide) (by have:=HLO.out;have:=HG7.out;omega) (Chg.one hg9));have HC9:=Za (chg_own HC8.out HG7.out.1 (Chg.one hg9));have HR39:=Za (HR38.out.grown hg9 (fun e=>by have:=HG7.out;injection e;omega));have HR49:=Za (HR48.out.grown hg9 (fun e=>by have:=HG7.out;injection e;omega));have c76:w9.cell? ⟨g7,6,none⟩=some (.int .u64 v6):=by rw [← HV6.out];exact (HR79.out.cell 6).trans rfl
       have c31:w9.cell? ⟨g3,1,none⟩=some (.int .u64 (s:Int)):=(HR39.out.cell 1).trans rfl;clear hr9 hg9 hs9)
    | (refine step_load rfl 36 rfl 43 (.tmp 7) rfl g7 rfl (ncs v) _ HR79.out.all Yh rfl (i1.out _) ?_)
    | (refine step_store rfl 43 (.tmp 4) (.tmp 36) rfl g4 rfl _ _ (ncs v) rfl HR49.out rfl (i1.out _) (ncs_one _) ?_;intro w10 hr9 hg9 hs9;have HG9:=Za hg9
       clear hg9 hs9))
  refine Yd (results_row_tmp rfl _ _ g4 _ _ _ _ rfl hr9 Yh rfl (by simpa using i1.out _)) rfl ?_;exact ⟨rfl,Za (HK9.out.other HR49.out (by decide) (by have:=HLO.out;have:=HG4.out;omega) (Chg.one HG9.out)),Za (chg_own HC9.out HG4.out (Chg.one HG9.out))⟩
end
/- A desk's inodes:one more made. Conditions:the desk lies there;the super has room,or has none. -/
section
variable {b:Nat} {w w':World} {gd gv gm gs r:Nat} {Bs:List BV} {N n:Nat} {X X':DX}
theorem dmake_ok (v:Nat→Int) (h:DK b w gd gv gm gs r Bs N n X) (hL:LdR Bs X X') (hn:n≤3000) (S1:Sup) (k s s0:Nat) (hk:k<65) (hs:s<256) (hS1:S1.s=s0∧S1.i k=(s:Int)) (hs0:s0+1<18446744073709551616)
    (hA:∀ W,Calls Tryz.prog 29 #[.agg X'.S.cs.toArray,.int .i64 (N:Int)] W fun e w'=>e=.returned (.tuple #[.agg S1.cs.toArray,.int .i64 (k:Int),.int .i64 0])∧Below W.heap.size W w') (v2:Nat→Int) (hv2:at1 v 6 (s0:Int)=v2) (hm:mayB v2=true) (hw:Wf v2):Calls Tryz.prog 11 #[.pointer (some ⟨gd,0,none⟩),.agg (ncs v).toArray] w (fun e w'=>e=.returned (.tuple #[.agg (rfc k s0).toArray,.int .i64 0])∧Hid (DK b w' gd gv gm gs r Bs N (n+1) ((X'.setS (S1.setS (s0+1))).put s (blk sz v2 27)))∧Hid (Chg [gd,gm] w w')):=by
  have HBG:=Za (hbegin h hn);have HLT:=Za h.lt;have HLO:=Za h.lo;have HL:=Za hL;have HN:=Za hn;have HA:=Za hA;have i1:=Za (fun x:Sup=>info_cs x);have i2:=Za (fun k s=>info_ref k s);have i3:=Za (fun v=>info_ncs v);have hz:=Za zero_sup;have hzr:=Za zero_ref;have HS:=Za (p:=S1.s=s0∧S1.i k=(s:Int)∧k<65∧s<256) ⟨hS1.1,hS1.2,hk,hs⟩;have hwr:IntKind.u64.wrap ((s0:Int)+1)=(s0:Int)+1:=by rw [wrap_64];omega
  have hk65:(k:Int)<65:=by omega
  have HPK:=Za (pack_ok v2 hm hw);have HV2:=Za hv2;clear h hL hn hA hS1 hk hs hs0 hm hw hv2;go_enter Tryz.func11,Tryz.ntmps11
  go_wp2_with (first
    | (refine step_box rfl 3 rfl 43 (.tmp 1) rfl (ncs v) rfl ?_;intro g3 w2 hr2 hg2 hb2 hs2;have HR32:=Za hr2
       have HB2:=Za hb2;have HG3:=Za (p:=w.heap.size≤g3) (Nat.le_of_eq hg2.out.symm);clear hr2 hg2 hb2 hs2)
    | (refine step_alloc rfl 4 rfl 36 rfl _ hzr.out ?_;intro g4 w3 hr3 hg3 hb3 hs3;have HR43:=Za hr3
       have HR33:=Za (HR32.out.kept hb3);have HB3:=Za (below_nxt hb3 HB2.out);have HG4:=Za (p:=w.heap.size≤g4∧g3<g4) (by rw [hg3.out];exact ⟨HB2.out.size,HR32.out.lt⟩);clear hr3 hg3 hb3 hs3)
    | (go_at_call 27;refine (HBG.out _ HB3.out).mono ?_;rintro e w4 ⟨rfl,hk,hc⟩;have HK4:=hk
       have HC4:=Za (p:=Chg [gd] w w4) ((Chg.of (F:=[gd]) HB3.out).trans hc.out (fun x hx=>.inl hx));have HR34:=Za (hc.out.row HR33.out (by have h1:=HLT.out;have h2:=HG3.out;simp;omega));have HR44:=Za (hc.out.row HR43.out (by have h1:=HLT.out;have h2:=HG4.out;simp;omega));clear hk hc)
    | (go_at_call 28;refine (dload HK4.out HL.out).mono ?_;rintro e w5 ⟨rfl,hk,hc⟩;have HK5:=Za (hk.out.below (below_drw _))
       have HC5:=Za (p:=Chg [gd] w w5.drew) (chg_nxt (chg_same HC4.out hc.out) (below_drw _));have HR35:=Za (p:=Row w5.drew g3 43 (ncs v)) ((hc.out.row HR34.out (by have h1:=HLT.out;have h2:=HG3.out;simp;omega)).drew);have HR45:=Za (p:=Row w5.drew g4 36 (rfc 0 0)) ((hc.out.row HR44.out (by have h1:=HLT.out;have h2:=HG4.out;simp;omega)).drew);obtain ⟨tl,ah,la,e1,e2,e3,hd⟩:=HK5.out.parts;have HD:=Za hd;obtain ⟨DC,hDC⟩:∃ DC,((dhd gv N++[Value.bool X'.rd])++(X'.S.cs++(X'.S0.cs++tl)))=DC:=⟨_,rfl⟩;have HRNG:=Za (p:=∀ W,Row W gd 80 DC→W.rangeAt gd 3 X'.S.cs∧W.cell? ⟨gd,1,none⟩=some (.int .i64 (N:Int))) (fun W h=>by subst hDC;exact ⟨h.rng rfl,(h.cell 1).trans rfl⟩);rw [hDC] at HD;clear hk hc e1 e2 e3 hd hDC))
  refine Zq (S:=fun W=>Row W gd 80 DC) (by kernel_rfl) HD.out (fun hHeld=>?_);refine Ze (i:=0) (oi:=⟨some 16,.move (.tmp 0),_,_,_,_⟩) (v:=.pointer (some ⟨gd,0,none⟩)) rfl (by kernel_rfl) (by kernel_rfl) (by kernel_rfl) (fun _ _ _ h=>h) (.inl ⟨by rfl,fun w hSw=>by go_simp⟩) (by assumption) ?_;simp only [Act.put,Zb,Zc,Zd];refine Ze (i:=1) (oi:=⟨some 17,.nilCheck (.tmp 16),_,_,_,_⟩) (v:=.pointer (some ⟨gd,0,none⟩)) rfl (by kernel_rfl) (by kernel_rfl) (by kernel_rfl) (fun _ _ _ h=>h) (.inl ⟨by rfl,fun w hSw=>by go_simp⟩) (by assumption) ?_;simp only [Act.put,Zb,Zc,Zd];refine Ze (i:=2) (oi:=⟨some 18,.fieldAddr 80 (.tmp 17) 2,_,_,_,_⟩) (v:=.pointer (some ⟨gd,2,none⟩)) rfl (by kernel_rfl) (by kernel_rfl) (by kernel_rfl) (fun _ _ _ h=>h) (.inl ⟨by rfl,fun w hSw=>by go_simp⟩) (by assumption) ?_;simp only [Act.put,Zb,Zc,Zd];refine Ze (i:=3) (oi:=⟨some 19,.fieldAddr 78 (.tmp 18) 1,_,_,_,_⟩) (v:=.pointer (some ⟨gd,3,none⟩)) rfl (by kernel_rfl) (by kernel_rfl) (by kernel_rfl) (fun _ _ _ h=>h) (.inl ⟨by rfl,fun w hSw=>by go_simp⟩) (by assumption) ?_;simp only [Act.put,Zb,Zc,Zd];refine Ze (i:=4) (oi:=⟨some 20,.load 76 (.tmp 19),_,_,_,_⟩) (v:=.agg X'.S.cs.toArray) rfl (by kernel_rfl) (by kernel_rfl) (by kernel_rfl) (fun _ _ _ h=>h) (Yb (by rfl) 76 (.tmp 19) rfl gd 3 rfl X'.S.cs _ (fun w hSw=>(HRNG.out _ hSw).1) Yj rfl (i1.out _)) (by assumption) ?_;simp only [Act.put,Zb,Zc,Zd];refine Ze (i:=5) (oi:=⟨some 21,.move (.tmp 0),_,_,_,_⟩) (v:=.pointer (some ⟨gd,0,none⟩)) rfl (by kernel_rfl) (by kernel_rfl) (by kernel_rfl) (fun _ _ _ h=>h) (.inl ⟨by rfl,fun w hSw=>by go_simp⟩) (by assumption) ?_;simp only [Act.put,Zb,Zc,Zd];refine Ze (i:=6) (oi:=⟨some 22,.nilCheck (.tmp 21),_,_,_,_⟩) (v:=.pointer (some ⟨gd,0,none⟩)) rfl (by kernel_rfl) (by kernel_rfl) (by kernel_rfl) (fun _ _ _ h=>h) (.inl ⟨by rfl,fun w hSw=>by go_simp⟩) (by assumption) ?_;simp only [Act.put,Zb,Zc,Zd];refine Ze (i:=7) (oi:=⟨some 23,.fieldAddr 80 (.tmp 22) 1,_,_,_,_⟩) (v:=.pointer (some ⟨gd,1,none⟩)) rfl (by kernel_rfl) (by kernel_rfl) (by kernel_rfl) (fun _ _ _ h=>h) (.inl ⟨by rfl,fun w hSw=>by go_simp⟩) (by assumption) ?_;simp only [Act.put,Zb,Zc,Zd];refine Ze (i:=8) (oi:=⟨some 24,.load 3 (.tmp 23),_,_,_,_⟩) (v:=.int .i64 (N:Int)) rfl (by kernel_rfl) (by kernel_rfl) (by kernel_rfl) (fun _ _ _ h=>h) (.inl ⟨by rfl,fun w hSw=>by have z:=(HRNG.out _ hSw).2;go_simp⟩) (by assumption) ?_;simp only [Act.put,Zb,Zc,Zd];refine Zp (rs:=[9,14]) (by kernel_rfl) (by simp) ?_;refine Zl (o:=⟨some 25,.call ⟨.value (.func 29),#[.tmp 20,.tmp 24],_⟩,_,_,_,_⟩) rfl (fun K hK=>?_) (Zl (o:=⟨some 6,.alloc 76,_,_,_,_⟩) rfl (fun K hK=>?_) Zo)
  · skip; go_simp;go_at_call 29;refine (HA.out _).mono ?_;rintro e w6 ⟨rfl,hb⟩;have HBw6:=Za (p:=Below w5.drew.heap.size w5.drew w6) (below_nxt hb (Below.refl w5.drew.heap.size w5.drew));have HDw6:=Za (HD.out.kept HBw6.out);clear hb;refine hK.out _ _ HDw6.out (fun _hH=>?_);clear hK K;refine Ze (i:=10) (oi:=⟨some 15,.move (.tmp 25),_,_,_,_⟩) (v:=.tuple #[.agg S1.cs.toArray,.int .i64 (k:Int),.int .i64 0]) rfl (by kernel_rfl) (by kernel_rfl) (by kernel_rfl) (fun _ _ _ h=>h) (.inl ⟨by rfl,fun w hSw=>by go_simp⟩) (by assumption) ?_;simp only [Act.put,Zb,Zc,Zd];refine Ze (i:=11) (oi:=⟨some 26,.extract (.tmp 15) 0,_,_,_,_⟩) (v:=.agg S1.cs.toArray) rfl (by kernel_rfl) (by kernel_rfl) (by kernel_rfl) (fun _ _ _ h=>h) (.inl ⟨by rfl,fun w hSw=>by go_simp⟩) (by assumption) ?_;simp only [Act.put,Zb,Zc,Zd];refine Ze (i:=12) (oi:=⟨some 27,.extract (.tmp 15) 1,_,_,_,_⟩) (v:=.int .i64 (k:Int)) rfl (by kernel_rfl) (by kernel_rfl) (by kernel_rfl) (fun _ _ _ h=>h) (.inl ⟨by rfl,fun w hSw=>by go_simp⟩) (by assumption) ?_;simp only [Act.put,Zb,Zc,Zd];refine Ze (i:=13) (oi:=⟨some 28,.extract (.tmp 15) 2,_,_,_,_⟩) (v:=.int .i64 0) rfl (by kernel_rfl) (by kernel_rfl) (by kernel_rfl) (fun _ _ _ h=>h) (.inl ⟨by rfl,fun w hSw=>by go_simp⟩) (by assumption) ?_;simp only [Act.put,Zb,Zc,Zd];refine Zp (rs:=[14]) (by kernel_rfl) (by simp) ?_;refine Zl (o:=⟨some 6,.alloc 76,_,_,_,_⟩) rfl (fun K hK=>?_) Zo;refine st_alloc (by rfl) 76 rfl _ hz.out ?_;intro g6 w7 hr6 hg6 hb;have HBw7:=Za (p:=Below w5.drew.heap.size w5.drew w7) (below_nxt hb HBw6.out);have HDw7:=Za (HD.out.kept HBw7.out);have HR6w7:=Za hr6;have HG6:=Za (p:=w5.drew.heap.size≤g6) (by rw [hg6.out];exact HBw6.out.size);clear hr6 hg6 hb;refine hK.out _ _ HDw7.out (fun _hH=>?_);clear hK K;refine Zp (rs:=[15]) (by kernel_rfl) (by simp) ?_;refine Zl (o:=⟨none,.store 76 (.tmp 6) (.tmp 26),_,_,_,_⟩) rfl (fun K hK=>?_) Zo;refine st_store (by rfl) 76 (.tmp 6) (.tmp 26) rfl g6 (by rfl) 76 _ S1.cs (by rfl) HR6w7.out (by simp [Sup.cs_len]) (i1.out _) (Sup.cs_one _) ?_;intro w8 hr6 hg6;have HR6:=Za hr6;have HB8:=Za (p:=Below w5.drew.heap.size w5.drew w8) (below_own HBw7.out hg6 HG6.out);have HD8:=Za (HD.out.kept HB8.out);clear hr6 hg6;refine hK.out _ _ HD8.out (fun _hH=>?_);clear hK K;refine Ze (i:=16) (oi:=⟨some 7,.assign (.tmp 27),_,_,_,_⟩) (v:=.int .i64 (k:Int)) rfl (by kernel_rfl) (by kernel_rfl) (by kernel_rfl) (fun _ _ _ h=>h) (.inl ⟨by rfl,fun w hSw=>by go_simp⟩) (by assumption) ?_;simp only [Act.put,Zb,Zc,Zd];refine Ze (i:=17) (oi:=⟨some 8,.assign (.tmp 28),_,_,_,_⟩) (v:=.int .i64 0) rfl (by kernel_rfl) (by kernel_rfl) (by kernel_rfl) (fun _ _ _ h=>h) (.inl ⟨by rfl,fun w hSw=>by go_simp⟩) (by assumption) ?_;simp only [Act.put,Zb,Zc,Zd];refine Yg (by kernel_rfl) ?_ _;have HK8:=Za (HK5.out.below HB8.out);have HC8:=Za (chg_nxt HC5.out HB8.out);have HR38:=Za (HR35.out.kept HB8.out);have HR48:=Za (HR45.out.kept HB8.out);have HGG:=Za (p:=w.heap.size≤g6∧g3<g6∧g4<g6) ⟨Nat.le_trans HC5.out.size HG6.out,Yc HR35.out.lt HG6.out,Yc HR45.out.lt HG6.out⟩;have c60:w8.cell? ⟨g6,0,none⟩=some (.int .u64 (s0:Int)):=by rw [HR6.out.cell,Sup.c_s,HS.out.1]
    have f60:=HR6.out.free 0;obtain ⟨v6,hv6⟩:∃ v6,v 6=v6:=⟨_,rfl⟩;have c36:w8.cell? ⟨g3,6,none⟩=some (.int .u64 v6):=by rw [← hv6];exact (HR38.out.cell 6).trans rfl
    have f36:=HR38.out.free 6;have n36:¬ g3=g6:=by have:=HGG.out;omega
    have n63:¬ g6=g3:=by have:=HGG.out;omega
    obtain ⟨wX,hwX⟩:∃ wX,(w8.setCell ⟨g3,6,none⟩ (.int .u64 (s0:Int))).setCell ⟨g6,0,none⟩ (.int .u64 ((s0:Int)+1))=wX:=⟨_,rfl⟩
    have HR3X:=Za (p:=Row wX g3 43 (ncs v2)) (by
      rw [← hwX, ← HV2.out];have h1:=(HR38.out.put 6 (.int .u64 (s0:Int))).far (p:=⟨g6,0,none⟩) n36 (.int .u64 ((s0:Int)+1));have h2:=ncs_set v (k:=6) (by decide) (s0:Int);rw [show kd 6=.u64 from rfl] at h2;rwa [h2] at h1)
    have HR6X:=Za (p:=Row wX g6 76 (S1.setS (s0+1)).cs) (by
      rw [← hwX];have h1:=(HR6.out.far (p:=⟨g3,6,none⟩) n63 (.int .u64 (s0:Int))).put 0 (.int .u64 (((s0+1:Nat)):Int));rw [Sup.set_s] at h1;exact h1)
    have HCX:=Za (p:=Chg [g3,g6] w8 wX) (by
      rw [← hwX];exact ((Chg.refl [g3,g6] w8).setCell (p:=⟨g3,6,none⟩) (.inl (by simp)) _).setCell (p:=⟨g6,0,none⟩) (.inl (by simp)) _)
    have HKX:=Za (p:=DK b wX gd gv gm gs r Bs N n X') (by
      have h1:=HK8.out.other (w':=w8.setCell ⟨g3,6,none⟩ (.int .u64 (s0:Int))) HR38.out (by decide) (by have:=HLO.out;have:=HG3.out;omega) ((Chg.refl [g3] w8).setCell (p:=⟨g3,6,none⟩) (.inl (by simp)) _);have h2:=h1.other (w':=wX) (HR6.out.far (p:=⟨g3,6,none⟩) n63 (.int .u64 (s0:Int))) (by decide) (by have:=HLO.out;have:=HGG.out;omega) (by rw [← hwX];exact (Chg.refl [g6] _).setCell (p:=⟨g6,0,none⟩) (.inl (by simp)) _);exact h2)
    have HCW:=Za (p:=Chg [gd] w wX) (HC8.out.trans HCX.out (fun x hx=>by
      simp at hx;rcases hx with rfl | rfl
      · exact .inr HG3.out
      · exact .inr HGG.out.1))
    have HR4X:=Za (HCX.out.row HR48.out (by have:=HGG.out;have:=HG4.out;simp;omega));have HWX:=Za hwX;clear hv6 hwX HCX HK4 HC4 HR34 HR44 HR33 HR43 HR32
    go_wp2_with (first
      | (rw [HWX.out];refine step_load rfl 41 rfl 76 (.tmp 6) rfl g6 rfl (S1.setS (s0+1)).cs _ HR6X.out.all Yj rfl (i1.out _) ?_
         clear c60 f60 c36 f36 n36 n63;obtain ⟨tl9,ah9,la9,e1,e2,e3,hd⟩:=HKX.out.parts;have HDX:=Za hd;have HEX:=Za (p:=ah9.length=775∧(∀ v ∈ ah9,v.oneCell'=true)∧tl9=ah9++dtl false la9) ⟨e1,e2,e3⟩;clear e1 e2 e3 hd)
      | (refine step_store_at rfl 76 (.tmp 44) (.tmp 41) rfl gd 3 (by rfl) 80 (dhd gv N++[Value.bool X'.rd]) X'.S.cs (S1.setS (s0+1)).cs (X'.S0.cs++tl9) (by rfl) HDX.out rfl (by simp [Sup.cs_len]) (i1.out _) (Sup.cs_one _) ?_;intro w9 hr9 hg9
         have HK9:=Za (HKX.out.setS HEX.out.1 HEX.out.2.1 HEX.out.2.2 hr9 (Chg.one hg9));have HC9:=Za (chg_same HCW.out (Chg.one hg9));have HR39:=Za (HR3X.out.grown hg9 (fun e=>by have h1:=HG3.out;have h2:=HLT.out;injection e;omega));have HR49:=Za (HR4X.out.grown hg9 (fun e=>by have h1:=HG4.out;have h2:=HLT.out;injection e;omega));have HR69:=Za (HR6X.out.grown hg9 (fun e=>by have h1:=HGG.out;have h2:=HLT.out;injection e;omega));clear hr9 hg9)
      | (refine step_load rfl 46 rfl 43 (.tmp 3) rfl g3 rfl (ncs v2) _ HR39.out.all Yh rfl (i3.out _) ?_)
      | (go_at_call 30;refine (HPK.out _).mono ?_;rintro e w10 ⟨A,c,rfl,ho,hb⟩;have HO:=ho
         have HK10:=Za (HK9.out.below hb.out);have HC10:=Za (chg_nxt HC9.out hb.out);have HR310:=Za (HR39.out.kept hb.out);have HR410:=Za (HR49.out.kept hb.out);have HBL:=Za (p:=(blk sz v2 27).length=256) (blk_len sz v2 27 (by decide))
         have ck:w10.cell? ⟨g6,257+k,none⟩=some (.int .i64 (s:Int)):=by
           rw [(HR69.out.kept hb.out).cell, ← HS.out.2.1];exact Sup.c_i (S1.setS (s0+1)) HS.out.2.2.1
         clear ho hb)
      | (go_at_call 31;have hput:=dput HK10.out ⟨A,c,blk sz v2 27⟩ (Hol.own HO.out) (by rw [HBL.out];decide) (s:Int) (by have:=HS.out;unfold I64;omega) HN.out
         simp only at hput;rw [HBL.out] at hput;refine hput.mono ?_;rintro e w11 ⟨rfl,hk,hc⟩;have HK11:=hk;have HC11:=Za (p:=Chg [gd,gm] w w11) (((HC10.out.wider (fun x hx=>.inl (by simp at hx ⊢;exact .inl hx))).trans hc.out (fun x hx=>.inl hx)));have hne:=HK10.out.view
         have HR411:=Za (hc.out.row HR410.out (by
           obtain ⟨C,hv,_⟩:=hne;have h1:g4≠gm:=fun e=>hv.map.no_cells _ _ _ (e ▸ HR410.out.heap);have h2:=HG4.out;have h3:=HLT.out;simp;exact ⟨by omega,h1⟩))
         have HR311:=Za (hc.out.row HR310.out (by
           obtain ⟨C,hv,_⟩:=hne;have h1:g3≠gm:=fun e=>hv.map.no_cells _ _ _ (e ▸ HR310.out.heap);have h2:=HG3.out;have h3:=HLT.out;simp;exact ⟨by omega,h1⟩))
         have c36b:w11.cell? ⟨g3,6,none⟩=some (.int .u64 (s0:Int)):=by
           have h1:v2 6=(s0:Int):=by rw [← HV2.out,at1_same]
           rw [← h1];exact (HR311.out.cell 6).trans rfl
         clear hk hc hne ck hput)
      | (refine step_build rfl 36 _ rfl [(0,.int .i64 (k:Int)),(1,.int .u64 (s0:Int))] ?hv _ (built_ref k s0) ?_;case hv=>(simp [Act.eval,Act.put]))
      | (refine step_store rfl 36 (.tmp 4) (.tmp 60) rfl g4 rfl _ _ (rfc k s0) rfl HR411.out rfl (i2.out _ _) (rfc_one _ _) ?_;intro w12 hr9 hg9 hs9;have HR9:=Za hr9
         have HG9:=Za hg9;clear hr9 hg9 hs9))
    refine Yd (results_row_tmp rfl _ _ g4 _ _ _ _ rfl HR9.out Tryz.underlying36 rfl (by simpa using i2.out k s0)) rfl ?_;exact ⟨rfl,Za (HK11.out.other HR411.out (by decide) (by have:=HLO.out;have:=HG4.out;omega) (Chg.one HG9.out)),Za (chg_own HC11.out HG4.out.1 (Chg.one HG9.out))⟩
  · skip; refine st_alloc (by rfl) 76 rfl _ hz.out ?_;intro g6 w6 hr6 hg6 hb;have HBw6:=Za (p:=Below w5.drew.heap.size w5.drew w6) (below_nxt hb (Below.refl w5.drew.heap.size w5.drew));have HDw6:=Za (HD.out.kept HBw6.out);have HR6w6:=Za hr6;have HG6:=Za (p:=w5.drew.heap.size≤g6) (by rw [hg6.out];exact (Below.refl w5.drew.heap.size w5.drew).size);clear hr6 hg6 hb;refine hK.out _ _ HDw6.out (fun _hH=>?_);clear hK K;refine Zp (rs:=[9]) (by kernel_rfl) (by simp) ?_;refine Zl (o:=⟨some 25,.call ⟨.value (.func 29),#[.tmp 20,.tmp 24],_⟩,_,_,_,_⟩) rfl (fun K hK=>?_) Zo;go_simp;go_at_call 29;refine (HA.out _).mono ?_;rintro e w7 ⟨rfl,hb⟩;have HBw7:=Za (p:=Below w5.drew.heap.size w5.drew w7) (below_nxt hb HBw6.out);have HDw7:=Za (HD.out.kept HBw7.out);have HR6w7:=Za (HR6w6.out.kept hb);clear hb;refine hK.out _ _ HDw7.out (fun _hH=>?_);clear hK K;refine Ze (i:=10) (oi:=⟨some 15,.move (.tmp 25),_,_,_,_⟩) (v:=.tuple #[.agg S1.cs.toArray,.int .i64 (k:Int),.int .i64 0]) rfl (by kernel_rfl) (by kernel_rfl) (by kernel_rfl) (fun _ _ _ h=>h) (.inl ⟨by rfl,fun w hSw=>by go_simp⟩) (by assumption) ?_;simp only [Act.put,Zb,Zc,Zd];refine Ze (i:=11) (oi:=⟨some 26,.extract (.tmp 15) 0,_,_,_,_⟩) (v:=.agg S1.cs.toArray) rfl (by kernel_rfl) (by kernel_rfl) (by kernel_rfl) (fun _ _ _ h=>h) (.inl ⟨by rfl,fun w hSw=>by go_simp⟩) (by assumption) ?_;simp only [Act.put,Zb,Zc,Zd];refine Ze (i:=12) (oi:=⟨some 27,.extract (.tmp 15) 1,_,_,_,_⟩) (v:=.int .i64 (k:Int)) rfl (by kernel_rfl) (by kernel_rfl) (by kernel_rfl) (fun _ _ _ h=>h) (.inl ⟨by rfl,fun w hSw=>by go_simp⟩) (by assumption) ?_;simp only [Act.put,Zb,Zc,Zd];refine Ze (i:=13) (oi:=⟨some 28,.extract (.tmp 15) 2,_,_,_,_⟩) (v:=.int .i64 0) rfl (by kernel_rfl) (by kernel_rfl) (by kernel_rfl) (fun _ _ _ h=>h) (.inl ⟨by rfl,fun w hSw=>by go_simp⟩) (by assumption) ?_;simp only [Act.put,Zb,Zc,Zd];refine Zp (rs:=[15]) (by kernel_rfl) (by simp) ?_;refine Zl (o:=⟨none,.store 76 (.tmp 6) (.tmp 26),_,_,_,_⟩) rfl (fun K hK=>?_) Zo;refine st_store (by rfl) 76 (.tmp 6) (.tmp 26) rfl g6 (by rfl) 76 _ S1.cs (by rfl) HR6w7.out (by simp [Sup.cs_len]) (i1.out _) (Sup.cs_one _) ?_;intro w8 hr6 hg6;have HR6:=Za hr6;have HB8:=Za (p:=Below w5.drew.heap.size w5.drew w8) (below_own HBw7.out hg6 HG6.out);have HD8:=Za (HD.out.kept HB8.out);clear hr6 hg6;refine hK.out _ _ HD8.out (fun _hH=>?_);clear hK K;refine Ze (i:=16) (oi:=⟨some 7,.assign (.tmp 27),_,_,_,_⟩) (v:=.int .i64 (k:Int)) rfl (by kernel_rfl) (by kernel_rfl) (by kernel_rfl) (fun _ _ _ h=>h) (.inl ⟨by rfl,fun w hSw=>by go_simp⟩) (by assumption) ?_;simp only [Act.put,Zb,Zc,Zd];refine Ze (i:=17) (oi:=⟨some 8,.assign (.tmp 28),_,_,_,_⟩) (v:=.int .i64 0) rfl (by kernel_rfl) (by kernel_rfl) (by kernel_rfl) (fun _ _ _ h=>h) (.inl ⟨by rfl,fun w hSw=>by go_simp⟩) (by assumption) ?_;simp only [Act.put,Zb,Zc,Zd];refine Yg (by kernel_rfl) ?_ _;have HK8:=Za (HK5.out.below HB8.out);have HC8:=Za (chg_nxt HC5.out HB8.out);have HR38:=Za (HR35.out.kept HB8.out);have HR48:=Za (HR45.out.kept HB8.out);have HGG:=Za (p:=w.heap.size≤g6∧g3<g6∧g4<g6) ⟨Nat.le_trans HC5.out.size HG6.out,Yc HR35.out.lt HG6.out,Yc HR45.out.lt HG6.out⟩;have c60:w8.cell? ⟨g6,0,none⟩=some (.int .u64 (s0:Int)):=by rw [HR6.out.cell,Sup.c_s,HS.out.1]
    have f60:=HR6.out.free 0;obtain ⟨v6,hv6⟩:∃ v6,v 6=v6:=⟨_,rfl⟩;have c36:w8.cell? ⟨g3,6,none⟩=some (.int .u64 v6):=by rw [← hv6];exact (HR38.out.cell 6).trans rfl
    have f36:=HR38.out.free 6;have n36:¬ g3=g6:=by have:=HGG.out;omega
    have n63:¬ g6=g3:=by have:=HGG.out;omega
    obtain ⟨wX,hwX⟩:∃ wX,(w8.setCell ⟨g3,6,none⟩ (.int .u64 (s0:Int))).setCell ⟨g6,0,none⟩ (.int .u64 ((s0:Int)+1))=wX:=⟨_,rfl⟩
    have HR3X:=Za (p:=Row wX g3 43 (ncs v2)) (by
      rw [← hwX, ← HV2.out];have h1:=(HR38.out.put 6 (.int .u64 (s0:Int))).far (p:=⟨g6,0,none⟩) n36 (.int .u64 ((s0:Int)+1));have h2:=ncs_set v (k:=6) (by decide) (s0:Int);rw [show kd 6=.u64 from rfl] at h2;rwa [h2] at h1)
    have HR6X:=Za (p:=Row wX g6 76 (S1.setS (s0+1)).cs) (by
      rw [← hwX];have h1:=(HR6.out.far (p:=⟨g3,6,none⟩) n63 (.int .u64 (s0:Int))).put 0 (.int .u64 (((s0+1:Nat)):Int));rw [Sup.set_s] at h1;exact h1)
    have HCX:=Za (p:=Chg [g3,g6] w8 wX) (by
      rw [← hwX];exact ((Chg.refl [g3,g6] w8).setCell (p:=⟨g3,6,none⟩) (.inl (by simp)) _).setCell (p:=⟨g6,0,none⟩) (.inl (by simp)) _)
    have HKX:=Za (p:=DK b wX gd gv gm gs r Bs N n X') (by
      have h1:=HK8.out.other (w':=w8.setCell ⟨g3,6,none⟩ (.int .u64 (s0:Int))) HR38.out (by decide) (by have:=HLO.out;have:=HG3.out;omega) ((Chg.refl [g3] w8).setCell (p:=⟨g3,6,none⟩) (.inl (by simp)) _);have h2:=h1.other (w':=wX) (HR6.out.far (p:=⟨g3,6,none⟩) n63 (.int .u64 (s0:Int))) (by decide) (by have:=HLO.out;have:=HGG.out;omega) (by rw [← hwX];exact (Chg.refl [g6] _).setCell (p:=⟨g6,0,none⟩) (.inl (by simp)) _);exact h2)
    have HCW:=Za (p:=Chg [gd] w wX) (HC8.out.trans HCX.out (fun x hx=>by
      simp at hx;rcases hx with rfl | rfl
      · exact .inr HG3.out
      · exact .inr HGG.out.1))
    have HR4X:=Za (HCX.out.row HR48.out (by have:=HGG.out;have:=HG4.out;simp;omega));have HWX:=Za hwX;clear hv6 hwX HCX HK4 HC4 HR34 HR44 HR33 HR43 HR32
    go_wp2_with (first
      | (rw [HWX.out];refine step_load rfl 41 rfl 76 (.tmp 6) rfl g6 rfl (S1.setS (s0+1)).cs _ HR6X.out.all Yj rfl (i1.out _) ?_
         clear c60 f60 c36 f36 n36 n63;obtain ⟨tl9,ah9,la9,e1,e2,e3,hd⟩:=HKX.out.parts;have HDX:=Za hd;have HEX:=Za (p:=ah9.length=775∧(∀ v ∈ ah9,v.oneCell'=true)∧tl9=ah9++dtl false la9) ⟨e1,e2,e3⟩;clear e1 e2 e3 hd)
      | (refine step_store_at rfl 76 (.tmp 44) (.tmp 41) rfl gd 3 (by rfl) 80 (dhd gv N++[Value.bool X'.rd]) X'.S.cs (S1.setS (s0+1)).cs (X'.S0.cs++tl9) (by rfl) HDX.out rfl (by simp [Sup.cs_len]) (i1.out _) (Sup.cs_one _) ?_;intro w9 hr9 hg9
         have HK9:=Za (HKX.out.setS HEX.out.1 HEX.out.2.1 HEX.out.2.2 hr9 (Chg.one hg9));have HC9:=Za (chg_same HCW.out (Chg.one hg9));have HR39:=Za (HR3X.out.grown hg9 (fun e=>by have h1:=HG3.out;have h2:=HLT.out;injection e;omega));have HR49:=Za (HR4X.out.grown hg9 (fun e=>by have h1:=HG4.out;have h2:=HLT.out;injection e;omega));have HR69:=Za (HR6X.out.grown hg9 (fun e=>by have h1:=HGG.out;have h2:=HLT.out;injection e;omega));clear hr9 hg9)
      | (refine step_load rfl 46 rfl 43 (.tmp 3) rfl g3 rfl (ncs v2) _ HR39.out.all Yh rfl (i3.out _) ?_)
      | (go_at_call 30;refine (HPK.out _).mono ?_;rintro e w10 ⟨A,c,rfl,ho,hb⟩;have HO:=ho
         have HK10:=Za (HK9.out.below hb.out);have HC10:=Za (chg_nxt HC9.out hb.out);have HR310:=Za (HR39.out.kept hb.out);have HR410:=Za (HR49.out.kept hb.out);have HBL:=Za (p:=(blk sz v2 27).length=256) (blk_len sz v2 27 (by decide))
         have ck:w10.cell? ⟨g6,257+k,none⟩=some (.int .i64 (s:Int)):=by
           rw [(HR69.out.kept hb.out).cell, ← HS.out.2.1];exact Sup.c_i (S1.setS (s0+1)) HS.out.2.2.1
         clear ho hb)
      | (go_at_call 31;have hput:=dput HK10.out ⟨A,c,blk sz v2 27⟩ (Hol.own HO.out) (by rw [HBL.out];decide) (s:Int) (by have:=HS.out;unfold I64;omega) HN.out
         simp only at hput;rw [HBL.out] at hput;refine hput.mono ?_;rintro e w11 ⟨rfl,hk,hc⟩;have HK11:=hk;have HC11:=Za (p:=Chg [gd,gm] w w11) (((HC10.out.wider (fun x hx=>.inl (by simp at hx ⊢;exact .inl hx))).trans hc.out (fun x hx=>.inl hx)));have hne:=HK10.out.view
         have HR411:=Za (hc.out.row HR410.out (by
           obtain ⟨C,hv,_⟩:=hne;have h1:g4≠gm:=fun e=>hv.map.no_cells _ _ _ (e ▸ HR410.out.heap);have h2:=HG4.out;have h3:=HLT.out;simp;exact ⟨by omega,h1⟩))
         have HR311:=Za (hc.out.row HR310.out (by
           obtain ⟨C,hv,_⟩:=hne;have h1:g3≠gm:=fun e=>hv.map.no_cells _ _ _ (e ▸ HR310.out.heap);have h2:=HG3.out;have h3:=HLT.out;simp;exact ⟨by omega,h1⟩))
         have c36b:w11.cell? ⟨g3,6,none⟩=some (.int .u64 (s0:Int)):=by
           have h1:v2 6=(s0:Int):=by rw [← HV2.out,at1_same]
           rw [← h1];exact (HR311.out.cell 6).trans rfl
         clear hk hc hne ck hput)
      | (refine step_build rfl 36 _ rfl [(0,.int .i64 (k:Int)),(1,.int .u64 (s0:Int))] ?hv _ (built_ref k s0) ?_;case hv=>(simp [Act.eval,Act.put]))
      | (refine step_store rfl 36 (.tmp 4) (.tmp 60) rfl g4 rfl _ _ (rfc k s0) rfl HR411.out rfl (i2.out _ _) (rfc_one _ _) ?_;intro w12 hr9 hg9 hs9;have HR9:=Za hr9
         have HG9:=Za hg9;clear hr9 hg9 hs9))
    refine Yd (results_row_tmp rfl _ _ g4 _ _ _ _ rfl HR9.out Tryz.underlying36 rfl (by simpa using i2.out k s0)) rfl ?_;exact ⟨rfl,Za (HK11.out.other HR411.out (by decide) (by have:=HLO.out;have:=HG4.out;omega) (Chg.one HG9.out)),Za (chg_own HC11.out HG4.out.1 (Chg.one HG9.out))⟩
end
/- The first file of a new volume:made,and got. Conditions:those named. -/
def vF (k:Nat):Int:=if k=0∨k=4 then 1 else 0
def vA (s:Nat):Nat→Int:=at1 vF 6 (s:Int)
theorem zeros_not (l:L8) (h:l=List.replicate 256 0):¬ SOk l:=by
  subst h;rintro ⟨_,h2,_⟩;have h3:(sr (List.replicate 256 0)).s=0:=by decide+kernel
  exact h2.1 h3
def iA:Nat→Int:=at1 (fun _=>0) 1 1
def oA:Nat→Bool:=fun _=>false
theorem super_first:(((supN.setU 1 true).setI 1 1).setS 2)=supU 2 iA oA 2:=by
  have e:at1 (fun j:Nat=>j==0) 1 true=fun j=>decide (j<2):=by
    funext j;unfold at1;by_cases h:j=1
    · rw [if_pos h];simp;omega
    · rw [if_neg h];by_cases h0:j=0
      · subst h0;rfl
      · have h1:(j==0)=false:=beq_false_of_ne h0;show (j==0)=_;rw [h1];simp;omega
  show (⟨2,at1 (fun j:Nat=>j==0) 1 true,iA,oA⟩:Sup)=⟨2,fun j=>decide (j<2),iA,oA⟩;rw [e]
def XA (X:DX):DX:=((X.loaded supN).setS (supU 2 iA oA 2)).put 1 (blk sz (vA 1) 27)
section
variable {b:Nat} {w w':World} {gd gv gm gs r:Nat} {Bs:List BV} {N n:Nat} {X X':DX}
theorem seeX_put (X:DX) (a:Int) (l:L8):seeX (X.put a l) Bs a=some l:=by
  unfold seeX DX.put upS;simp
theorem seeX_put_ne (X:DX) (a c:Int) (l:L8) (h:c≠a):seeX (X.put a l) Bs c=seeX X Bs c:=by
  unfold seeX DX.put upS;simp only [if_neg h]
theorem rowok_direct (v:Nat→Int) (e:Nat) (he:e≤16∨v 26=0):RowOk b gd gv gm gs r Bs N X v e (rowD v):=fun w n h=>drow_direct v e h he
theorem src_zero {w:World} {m:Nat} (hs:Src b w gs Bs) (hB:Bs.length=m∧∀ x ∈ Bs,x.l=List.replicate 256 0) (C:Int→Option L8) (a:Nat) (ha:a<m) (hC:C (a:Int)=none):seeX ⟨false,sup0,sup0,C⟩ Bs (a:Int)=some (List.replicate 256 0):=by
  unfold seeX;simp only [hC];rw [src_nat,Zh (by omega),Option.map_some,hB.2 _ (List.getElem_mem _)]
end
/- The laws' first test. Conditions:those named. -/
section
variable {b:Nat} {w w':World} {gd gv gm gs r:Nat} {Bs:List BV} {N n:Nat} {X X':DX}
end
/- A file as it lies on a desk:its slots,its list,its content. Conditions:those named. -/
structure FO (Bs:List BV) (X:DX) (v R:Nat→Int) (m:Nat) (F:Nat→UInt8):Prop where
  dir:∀ j,j<16→R j=v (10+j)
  list:(v 26=0∧∀ j,16≤j→j<128→R j=0)∨∃ z:Nat,v 26=(z:Int)∧0<z∧z<m∧seeX X Bs (z:Int)=some (blk s2 (fun j=>R (16+j)) 112)∧∀ j,j<128→R j≠(z:Int)
  cont:∀ j,j<128→∃ z:Nat,R j=(z:Int)∧z<m∧CW X Bs z (fun q=>F (j*256+q))
  inj:∀ i j,i<128→j<128→R i=R j→R i≠0→i=j
  lim:m≤256
section
variable {b:Nat} {w w':World} {gd gv gm gs r:Nat} {Bs:List BV} {N n m:Nat} {X X':DX} {v R:Nat→Int} {F:Nat→UInt8}
theorem FO.bounds (h:FO Bs X v R m F):∀ j,j<128→0≤R j∧R j≤255:=fun j hj=>by
  obtain ⟨z,h1,h2,_⟩:=h.cont j hj;have:=h.lim;omega
theorem FO.v26 (h:FO Bs X v R m F):0≤v 26∧v 26≤255:=by
  have:=h.lim;rcases h.list with ⟨h1,_⟩ | ⟨z,h1,h2,h3,_⟩ <;> omega
theorem FO.slotB (h:FO Bs X v R m F):slotB (fun j=>R (16+j)) 112=true:=(slotB_iff _ _).2 fun j hj=>h.bounds (16+j) (by omega)
theorem inl_rowD (h:FO Bs X v R m F) (h0:v 26=0):inl 128 (rowD v)=inl 128 R:=List.map_congr_left fun j hj=>by
  have hj:=List.mem_range.1 hj;unfold rowD;rcases h.list with ⟨_,h1⟩ | ⟨z,h1,h2,_⟩
  · by_cases h16:j<16
    · rw [if_pos h16,h.dir j h16]
    · rw [if_neg h16,h1 j (by omega) hj]
  · omega
theorem inl_rowL (h:FO Bs X v R m F):inl 128 (rowL v fun j=>R (16+j))=inl 128 R:=List.map_congr_left fun j hj=>by
  unfold rowL;by_cases h16:j<16
  · rw [if_pos h16,h.dir j h16]
  · rw [if_neg h16];show Value.int .i64 (R (16+(j - 16)))=_;rw [show 16+(j - 16)=j by omega]
theorem FO.row (h:FO Bs X v R m F) (e:Nat) (he:16<e):RowOk b gd gv gm gs r Bs N X v e R:=fun w n hk=>by
  rcases h.list with ⟨h0,h1⟩ | ⟨z,h0,h1,h2,h3,_⟩
  · have h4:=drow_direct v e hk (.inr h0);rw [inl_rowD h h0] at h4;exact h4
  · have hb:(blk s2 (fun j=>R (16+j)) 112).length=256:=blk_len _ _ _ (by decide);have h4:=drow_listed v (fun j=>R (16+j)) e hk z h0 ⟨h1,by have:=h.lim;omega⟩ _ h3 (by rw [hb];decide) 0 (by rw [norm_256 hb];exact lV_blk _ h.slotB) he;rw [inl_rowL h] at h4;exact h4
theorem FO.row_d (h:FO Bs X v R m F) (e:Nat) (he:e≤16):RowOk b gd gv gm gs r Bs N X v e (rowD v):=rowok_direct v e (.inl he)
theorem FO.read (h:FO Bs X v R m F) (off count cn sz:Nat) (hk:DK b w gd gv gm gs r Bs N n X) (hn:n≤3000) (hsz:v 5=(sz:Int)) (hsz2:sz≤32768) (hcount:count≤32768) (hoff:off<sz) (hcn:cn=min count (sz - off)) (hcn1:1≤cn):
    Calls Tryz.prog 38 #[.pointer (some ⟨gd,0,none⟩),.agg (ncs v).toArray,.int .i64 (off:Int),.int .i64 (count:Int)] w (DSee b w gd gv gm gs r Bs N n X (lst cn fun i=>F (off+i))):=by
  obtain ⟨first,hf⟩:∃ first,off / 256=first:=⟨_,rfl⟩
  obtain ⟨e,he⟩:∃ e,(off+cn - 1) / 256+1=e:=⟨_,rfl⟩;have hle:cn≤sz - off:=by rw [hcn];exact Nat.min_le_right _ _
  have h128:e≤128:=by omega
  have hfe:first+(e - first)=e:=by omega
  by_cases h16:e≤16
  · exact dread v (rowD v) off count cn sz first (e - first) e F hk hn hsz hsz2 hcount hoff hcn hcn1 (by omega) hfe (h.row_d e h16) (fun k hk=>by
      obtain ⟨z,h1,_,h3⟩:=h.cont (first+k) (by omega);refine ⟨z,?_,h3⟩;rw [← h1,h.dir _ (by omega)];unfold rowD;rw [if_pos (by omega)])
  · exact dread v R off count cn sz first (e - first) e F hk hn hsz hsz2 hcount hoff hcn hcn1 (by omega) hfe (h.row e (by omega)) (fun k hk=>by
      obtain ⟨z,h1,_,h3⟩:=h.cont (first+k) (by omega);exact ⟨z,h1,h3⟩)
end
section
variable {Bs:List BV} {X:DX}
theorem seeX_setS (X:DX) (S:Sup) (a:Int):seeX (X.setS S) Bs a=seeX X Bs a:=rfl
theorem wrs_out (sl:Nat→Int) (bk:Nat→Nat→UInt8) (a:Int):∀ k,(∀ j,j<k→sl j≠a)→seeX (X.wrs sl bk k) Bs a=seeX X Bs a
  | 0,_=>rfl
  | k+1,h=>by
    show seeX ((X.wrs sl bk k).put (sl k) _) Bs a=_;rw [seeX_put_ne _ _ _ _ (Ne.symm (h k (by omega)))];exact wrs_out sl bk a k (fun j hj=>h j (by omega))
theorem wrs_in (sl:Nat→Int) (bk:Nat→Nat→UInt8) (i:Nat):∀ k,i<k→(∀ j,j<k→j≠i→sl j≠sl i)→seeX (X.wrs sl bk k) Bs (sl i)=some (lst 256 (bk i))
  | 0,hi,_=>absurd hi (Nat.not_lt_zero _)
  | k+1,hi,h=>by
    show seeX ((X.wrs sl bk k).put (sl k) _) Bs (sl i)=_;by_cases e:i=k
    · subst e;exact seeX_put _ _ _
    · rw [seeX_put_ne _ _ _ _ (Ne.symm (h k (by omega) (Ne.symm e)))];exact wrs_in sl bk i k (by omega) (fun j hj=>h j (by omega))
theorem CW.congr {X Y:DX} {z:Nat} {f:Nat→UInt8} (h:CW X Bs z f) (e:z≠0→seeX Y Bs (z:Int)=seeX X Bs (z:Int)):CW Y Bs z f:=by
  obtain ⟨g,h1,h2⟩:=h;refine ⟨g,?_,h2⟩;rcases h1 with h1 | ⟨h1,h3,l,h4,h5⟩
  · exact .inl h1
  · exact .inr ⟨h1,h3,l,by rw [e (by omega)];exact h4,h5⟩
theorem CW.at {X:DX} {z:Nat} {g f:Nat→UInt8} (h1:0<z∧z<256) (h2:seeX X Bs (z:Int)=some (lst 256 g)) (h3:∀ j,j<256→g j=f j):CW X Bs z f:=by
  have hl:(lst 256 g).length=256:=lst_len 256 g;refine ⟨bfn (lst 256 g),.inr ⟨h1.1,h1.2,_,h2,by rw [hl];decide,by rw [norm_256 hl,hl],by rw [norm_256 hl]⟩,fun j hj=>?_⟩;rw [← h3 j hj];unfold bfn;rw [List.getD_eq_getElem?_getD,lst_get _ hj];rfl
end
/- A file as it lies on a desk behind a write. Conditions:those named. -/
theorem fl_cases (R:Nat→Int) (m first cnt j:Nat):(¬ (first≤j∧j<first+cnt∧R j=0)∧flR R m first cnt j=R j)∨((first≤j∧j<first+cnt∧R j=0)∧flR R m first cnt j=((m+zc R first (j - first):Nat):Int)∧zc R first (j - first)<zc R first cnt):=by
  by_cases h:first≤j∧j<first+cnt∧R j=0
  · refine .inr ⟨h,if_pos h,?_⟩;have h1:=zc_succ R first (j - first)
    have h2:first+(j - first)=j:=by omega
    rw [h2,if_pos h.2.2] at h1;have h3:=zc_mono R first (j - first+1) cnt (by omega)
    omega
  · exact .inl ⟨h,if_neg h⟩
theorem zc_less (R:Nat→Int) (first i j:Nat) (hi:first≤i) (hij:i<j) (h0:R i=0):zc R first (i - first)<zc R first (j - first):=by
  have h1:=zc_succ R first (i - first)
  have h2:first+(i - first)=i:=by omega
  rw [h2,if_pos h0] at h1;have h3:=zc_mono R first (i - first+1) (j - first) (by omega)
  omega
theorem blk_s2 {f g:Nat→Int} (h:∀ k,k<112→f k=g k):blk s2 f 112=blk s2 g 112:=by
  have:=nb_congr s2 112 h;unfold blk at this ⊢;rw [this]
theorem slot_nat {z:Int} {a m2:Nat} (h0:0≤z) (h1:z<(a:Int)) (h2:a≤m2) (h3:m2≤256) (hne:z≠0):∃ n:Nat,z=(n:Int)∧0<n∧n<m2∧n<256:=⟨z.toNat,by omega,by omega,by omega,by omega⟩
section
variable {Bs:List BV} {X X2:DX} {v v' R:Nat→Int} {m:Nat} {F F2:Nat→UInt8}
theorem FO.written (h:FO Bs X v R m F) (hm1:1≤m) (first cnt e:Nat) (hfe:first+cnt=e) (he:e≤128) (L2:Int) (m2:Nat) (hL2:flL e (v 26) (m+zc R first cnt)=L2) (hm2:flM e (v 26) (m+zc R first cnt)=m2) (hlim:m2≤256) (bk:Nat→Nat→UInt8)
    (hbk:∀ k,k<cnt→∀ q,q<256→bk k q=F2 ((first+k)*256+q)) (hF2:∀ j,j<128→¬ (first≤j∧j<e)→∀ q,q<256→F (j*256+q)=F2 (j*256+q)) (S:Sup) (hv':∀ j,j<16→v' (10+j)=flR R m first cnt j) (hv26:v' 26=L2)
    (hX2:PL ((X.setS S).wrs (fun k=>flR R m first cnt (first+k)) bk cnt) (v 26) L2 R (flR R m first cnt) X2):FO Bs X2 v' (flR R m first cnt) m2 F2:=by
  obtain ⟨R2,hR2⟩:∃ R2,flR R m first cnt=R2:=⟨_,rfl⟩
  obtain ⟨Z,hZ⟩:∃ Z,zc R first cnt=Z:=⟨_,rfl⟩
  have hc:∀ j,(¬ (first≤j∧j<first+cnt∧R j=0)∧R2 j=R j)∨((first≤j∧j<first+cnt∧R j=0)∧R2 j=((m+zc R first (j - first):Nat):Int)∧zc R first (j - first)<Z):=fun j=>by rw [← hR2, ← hZ];exact fl_cases R m first cnt j
  rw [hR2] at hv' hX2 ⊢;rw [hZ] at hL2 hm2;have hmm:m+Z≤m2:=by rw [← hm2];unfold flM;split <;> omega
  have hlt:∀ j,j<128→0≤R2 j∧R2 j<((m+Z:Nat):Int):=fun j hj=>by
    obtain ⟨z,h1,h2,_⟩:=h.cont j hj;rcases hc j with ⟨_,e1⟩ | ⟨_,e1,e2⟩
    · rw [e1];omega
    · rw [e1];omega
  have hinj:∀ i j,i<128→j<128→R2 i=R2 j→R2 i≠0→i=j:=by
    intro i j hi hj he2 hne;obtain ⟨zi,hi1,hi2,_⟩:=h.cont i hi;obtain ⟨zj,hj1,hj2,_⟩:=h.cont j hj;rcases hc i with ⟨_,e1⟩ | ⟨a1,e1,_⟩
    · rcases hc j with ⟨_,e2⟩ | ⟨a2,e2,_⟩
      · exact h.inj i j hi hj (by rw [← e1, ← e2];exact he2) (by rw [← e1];exact hne)
      · rw [e1,e2] at he2;omega
    · rcases hc j with ⟨_,e2⟩ | ⟨a2,e2,_⟩
      · rw [e1,e2] at he2;omega
      · rw [e1,e2] at he2;rcases Nat.lt_trichotomy i j with h1 | h1 | h1
        · have:=zc_less R first i j a1.1 h1 a1.2.2;omega
        · exact h1
        · have:=zc_less R first j i a2.1 h1 a2.2.2;omega
  have hL0:L2=v 26∨(L2=((m+Z:Nat):Int)∧v 26=0∧m2=m+Z+1):=by
    rw [← hL2, ← hm2];unfold flL flM;by_cases hq:e≤16∨v 26≠0
    · rw [if_pos hq];exact .inl rfl
    · rw [if_neg hq,if_neg hq];exact .inr ⟨rfl,by omega,rfl⟩
  have hLs:L2≠0→0<L2∧L2<(m2:Int)∧∀ j,j<128→R2 j≠L2:=fun hne=>by
    rcases hL0 with hq | ⟨hq,_,h3⟩
    · rcases h.list with ⟨h1,_⟩ | ⟨z,h1,h2,h3,_,h5⟩
      · omega
      · refine ⟨by omega,by omega,fun j hj=>?_⟩;rw [hq,h1];rcases hc j with ⟨_,e1⟩ | ⟨_,e1,_⟩
        · rw [e1];exact h5 j hj
        · rw [e1];omega
    · refine ⟨by omega,by omega,fun j hj=>?_⟩;have:=(hlt j hj).2;omega
  have hsee2:∀ a:Int,a≠L2∨L2=0→seeX X2 Bs a=seeX ((X.setS S).wrs (fun k=>R2 (first+k)) bk cnt) Bs a:=fun a ha=>by
    rcases hX2 with ⟨_,h2⟩ | ⟨h1,_,h2⟩
    · rw [h2]
    · rw [h2,seeX_put_ne];rcases ha with h3 | h3
      · exact h3
      · exact absurd h3 h1
  have hnew:∀ k,k<cnt→R2 (first+k)≠0:=fun k hk=>by
    rcases hc (first+k) with ⟨h1,e1⟩ | ⟨_,e1,_⟩
    · rw [e1];intro h0;exact h1 ⟨by omega,by omega,h0⟩
    · rw [e1];omega
  refine ⟨fun j hj=>(hv' j hj).symm,?_,fun j hj=>?_,hinj,hlim⟩
  · by_cases h0:L2=0
    · refine .inl ⟨by rw [hv26,h0],fun j h16 hj=>?_⟩;have hv0:v 26=0:=by rcases hL0 with h1 | ⟨h1,_⟩ <;> omega
      have he16:e≤16:=by
        rw [← hL2] at h0;unfold flL at h0;by_cases hq:e≤16∨v 26≠0
        · rcases hq with hq | hq
          · exact hq
          · exact absurd hv0 hq
        · rw [if_neg hq] at h0;omega
      rcases h.list with ⟨_,h1⟩ | ⟨z,h1,h2,_⟩
      · rcases hc j with ⟨_,e1⟩ | ⟨a1,_⟩
        · rw [e1];exact h1 j h16 hj
        · omega
      · omega
    · obtain ⟨h1,h2,h3⟩:=hLs h0;obtain ⟨zl,hzl,hl0,hl1,_⟩:=slot_nat (Int.le_of_lt h1) h2 (Zj _) hlim h0;refine .inr ⟨zl,by rw [hv26];exact hzl,hl0,hl1,?_,fun j hj=>by rw [← hzl];exact h3 j hj⟩;rw [← hzl];rcases hX2 with ⟨h4,h5⟩ | ⟨_,_,h5⟩
      · rcases h4 with h4 | ⟨h4,h6⟩
        · exact absurd h4 h0
        · rw [h5,wrs_out _ _ _ _ (fun k hk=>h3 (first+k) (by clear hL0 hLs hc hL2 hm2;omega)),seeX_setS];rcases h.list with ⟨h7,_⟩ | ⟨z,h7,_,_,h8,_⟩
          · exact absurd (h4.trans h7) h0
          · rw [h4,h7,h8];exact congrArg some (blk_s2 (fun j hj=>(h6 j hj).symm))
      · rw [h5];exact seeX_put _ _ _
  · obtain ⟨z0,hz0,hz1,hw⟩:=h.cont j hj;have hb:=hlt j hj;by_cases hin:first≤j∧j<e
    · have hj0:first+(j - first)=j:=by clear hL0 hLs hc hX2 hL2 hm2;omega
      have hne:=hnew (j - first) (by clear hL0 hLs hc hX2 hL2 hm2;omega);rw [hj0] at hne;obtain ⟨zr,hzr,hr0,hr1,hr2⟩:=slot_nat hb.1 hb.2 hmm hlim hne;have hjc:j - first<cnt:=by clear hL0 hLs hc hX2 hL2 hm2;omega
      refine ⟨zr,hzr,hr1,CW.at ⟨hr0,hr2⟩ (g:=bk (j - first)) ?_ (fun q hq=>?_)⟩
      · rw [← hzr,hsee2 (R2 j) (by
          by_cases h0:L2=0
          · exact .inr h0
          · exact .inl ((hLs h0).2.2 j hj))]
        have h1:=wrs_in (Bs:=Bs) (X:=X.setS S) (fun k=>R2 (first+k)) bk (j - first) cnt hjc (fun i hi hne2 he2=>hne2 (by
          have h9:=hinj (first+i) (first+(j - first)) (by clear hL0 hLs hc hX2 hL2 hm2;omega) (by clear hL0 hLs hc hX2 hL2 hm2;omega) he2 (hnew i hi);clear hL0 hLs hc hX2 hL2 hm2;omega))
        simp only [hj0] at h1;exact h1
      · rw [hbk (j - first) hjc q hq,hj0]
    · have e1:R2 j=R j:=by
        rcases hc j with ⟨_,e1⟩ | ⟨a1,_⟩
        · exact e1
        · omega
      refine ⟨z0,by rw [e1,hz0],by clear hL0 hLs hc hX2 hL2 hm2;omega,?_⟩;obtain ⟨g,hg1,hg2⟩:=hw;refine CW.congr (X:=X) ⟨g,hg1,fun q hq=>by rw [hg2 q hq];exact hF2 j hj hin q hq⟩ (fun hz=>?_)
      rw [← hz0,hsee2 (R j) (by
        by_cases h0:L2=0
        · exact .inr h0
        · exact .inl (by rw [← e1];exact (hLs h0).2.2 j hj))]
      rw [wrs_out _ _ _ _ (fun k hk he2=>hin (by
        have h1:R2 (first+k)=R2 j:=by rw [e1];exact he2
        have h2:=hinj (first+k) j (by omega) hj h1 (hnew k hk);omega)),seeX_setS]
end
end Go.Proofs.YtijffkklhgnknaaGreatDoor
