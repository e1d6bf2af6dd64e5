/- A view as it lies: what it sees, wants, and what is put. Conditions: the view lies there, over a source. -/
import Derived.Test.YtijffkklhgnknaaGreatDoorAz
import Derived.Test.YtijffkklhgnknaaGreatDoorMgRa
import Derived.RegionTactic
import Derived.ChangeAlike
import Derived.BigRegion
import Derived.StillTailTactics
import Derived.WalkLawsBesides
import Derived.Carry
import Derived.Deep.RegionHeld3
import Derived.Defers
import Derived.Recover
import Derived.LaidEqlPtr
import Derived.Test.YtijffkklhgnknaaGreatDoorMgChg
import Derived.Test.YtijffkklhgnknaaGreatDoorMgMem
import Derived.Test.YtijffkklhgnknaaGreatDoorChecked
import Derived.Laws.ResultCell
import Derived.Laws.StructEq
set_option maxHeartbeats 20000000
set_option linter.unusedVariables false
set_option maxRecDepth 20000
namespace Go.Proofs.YtijffkklhgnknaaGreatDoor
open Go.RowKit
def getV (gs:Nat):Value:=.func (.func 7) #[.pointer (some ⟨gs,0,none⟩)] #[]
def vcs (gs gm:Nat) (rp:Option Addr):List Value:=[getV gs,.map (some gm),.pointer rp]
structure VV (b:Nat) (w:World) (gv gm gs:Nat) (rp:Option Addr) (n:Nat) (C:Int→Option BV):Prop where
  row:Row w gv 68 (vcs gs gm rp)
  map:MC w gm n C
  own:∀ a x,C a=some x→Own8 b w x
  len:∀ a x,C a=some x→x.l.length≤131072
  lo:b≤gv∧b≤gm
section
variable {b:Nat} {w w':World} {gv gm gs:Nat} {rp:Option Addr} {n:Nat} {C:Int→Option BV} {Bs:List BV}
theorem VV.c0 (h:VV b w gv gm gs rp n C):w.cell? ⟨gv,0,none⟩=some (getV gs):=(h.row.cell 0).trans rfl
theorem VV.c1 (h:VV b w gv gm gs rp n C):w.cell? ⟨gv,1,none⟩=some (.map (some gm)):=(h.row.cell 1).trans rfl
theorem VV.c2 (h:VV b w gv gm gs rp n C):w.cell? ⟨gv,2,none⟩=some (.pointer rp):=(h.row.cell 2).trans rfl
theorem VV.ne (h:VV b w gv gm gs rp n C):gv≠gm:=fun e=>h.map.no_cells _ _ _ (e ▸ h.row.heap)
theorem VV.keep {F:List Nat} (h:VV b w gv gm gs rp n C) (hc:Chg F w w') (h1:gv ∉ F) (h2:gm ∉ F) (h3:∀ a x k,C a=some x→(bvv x).ownBlock=some k→k ∉ F):VV b w' gv gm gs rp n C:=
  ⟨hc.row h.row h1,h.map.chg hc h2,fun a x hx=>Chg.own (h.own a x hx) hc (fun k hk=>h3 a x k hx hk),h.len,h.lo⟩
theorem VV.below (h:VV b w gv gm gs rp n C) (hb:Below w.heap.size w w'):VV b w' gv gm gs rp n C:=h.keep (Chg.of (F:=[]) hb) (by simp) (by simp) (by simp)
theorem VV.below' {F:List Nat} (h:VV b w gv gm gs rp n C) (hc:Chg F w w') (hF:∀ x ∈ F,w.heap.size≤x):VV b w' gv gm gs rp n C:=
  h.keep hc (fun hx=>by have:=hF _ hx;have:=h.row.lt;omega) (fun hx=>by have:=hF _ hx;have:=h.map.lt;omega) (fun a x k hx hk hf=>by have:=hF _ hf;have:=((h.own a x hx).lt k hk).2;omega)
def seeF (C S:Int→Option BV) (a:Int):Option BV:=match C a with | some x=>some x | none=>S a
theorem fn_nil (fn:Fn) (a c:Array Value) (w:World):(binOp .eql 29 (.func fn a c) .nilFunc).run Tryz.prog w=.ok (.bool false) w:=by kernel_rfl
theorem vsees (h:VV b w gv gm gs rp n C) (hs:Src b w gs Bs) (a:Int) (ha:I64 a):
    Calls Tryz.prog 114 #[.pointer (some ⟨gv,0,none⟩),.int .i64 a] w fun e w'=>e=.returned (.tuple #[bvo (seeF C (srcF Bs) a),.bool (seeF C (srcF Bs) a).isSome])∧w=w':=by
  have c0:=h.c0;have c1:=h.c1;have hl:=h.map.look_ok ha;have hfn:=fn_nil;unfold getV at c0
  cases hC:C a with
  | some x=>
    have e1:seeF C (srcF Bs) a=some x:=by unfold seeF;rw [hC]
    rw [e1];rw [hC] at hl;clear hC e1 h hs;go_enter Tryz.func114,Tryz.ntmps114;go_wp2;go_ret2;exact ⟨rfl,rfl⟩
  | none=>
    have e1:seeF C (srcF Bs) a=srcF Bs a:=by unfold seeF;rw [hC]
    rw [e1];rw [hC] at hl;have HG:=Za (get_any hs a);clear hC e1 h hs;go_enter Tryz.func114,Tryz.ntmps114;go_wp2_with (go_at_call 7;refine HG.out.mono ?_;rintro e w4 ⟨rfl,rfl⟩);go_ret2;exact ⟨rfl,rfl⟩
def runE (r:Nat):Ending:=.panicked [{ v:=.iface 66 (.pointer (some ⟨r,0,none⟩)),recovered:=false }]
def rcs (x:Bool) (a:Int):List Value:=[.bool x,.int .i64 a]
def SeeP (w:World) (l:List UInt8) (e:Ending) (w':World):Prop:=∃ y:BV,e=.returned (.slice y.A y.l.length y.c)∧Hid (y.l=l)∧Hid (Own8 w.heap.size w' y)∧Hid (Below w.heap.size w w')
theorem see_hol (h:VV b w gv gm gs rp n C) (hs:Src b w gs Bs) {a:Int} {x:BV} (hx:seeF C (srcF Bs) a=some x):Hol w x.A x.l∧x.l.length≤131072:=by
  unfold seeF at hx
  split at hx
  · rename_i y hy
    obtain rfl:y=x:=by injection hx
    exact ⟨(h.own a y hy).hol,h.len a y hy⟩
  · exact ⟨(hs.hol x (src_mem hx)).1,by rw [hs.len x (src_mem hx)];decide⟩
theorem vsee (h:VV b w gv gm gs rp n C) (hs:Src b w gs Bs) (a:Int) (ha:I64 a) (x:BV) (hx:seeF C (srcF Bs) a=some x):
    Calls Tryz.prog 76 #[.pointer (some ⟨gv,0,none⟩),.int .i64 a] w (SeeP w x.l):=by
  have HS:=Za (vsees h hs a ha);obtain ⟨h1,h2⟩:=see_hol h hs hx;have HC:=Za (clone8 x w h1 h2);rw [hx] at HS;clear h hs hx h1 h2;go_enter Tryz.func76,Tryz.ntmps76
  go_wp2_with (first
    | (go_at_call 114;refine HS.out.mono ?_;rintro e w4 ⟨rfl,rfl⟩)
    | (go_at_call 108;refine HC.out.mono ?_;rintro e w5 ⟨y,rfl,hy,ho,hb⟩))
  go_ret;exact ⟨y,rfl,hy,ho,hb⟩
end
/- A view:what is put;a new one. Conditions:the view lies there,over a source. -/
section
variable {b:Nat} {w w':World} {gv gm gs:Nat} {rp:Option Addr} {n:Nat} {C:Int→Option BV} {Bs:List BV}
def PutP (b:Nat) (w:World) (gv gm gs:Nat) (rp:Option Addr) (n:Nat) (C:Int→Option BV) (a:Int) (l:List UInt8) (e:Ending) (w':World):Prop:=
  e=.returned (.tuple #[])∧∃ y:BV,Hid (y.l=l)∧Hid (∀ k,(bvv y).ownBlock=some k→w.heap.size≤k)∧Hid (VV b w' gv gm gs rp (n+1) (upC C a y))∧Hid (Chg [gm] w w')
theorem own_ge {b:Nat} {w:World} {x:BV} (h:Own8 b w x):∀ k,(bvv x).ownBlock=some k→b≤k:=fun k hk=>(h.lt k hk).1
theorem vput (h:VV b w gv gm gs rp n C) (hb:b≤w.heap.size) (x:BV) (hx:Hol w x.A x.l) (hl:x.l.length≤131072) (a:Int) (ha:I64 a) (hn:n≤1000000):
    Calls Tryz.prog 71 #[.pointer (some ⟨gv,0,none⟩),.int .i64 a,.slice x.A x.l.length x.c] w (PutP b w gv gm gs rp n C a x.l):=by
  have c1:=h.c1;have HC:=Za (clone8 x w.drew hx hl);have fin:∀ (y:BV) (w4:World),y.l=x.l→Own8 w.heap.size w4 y→Below w.heap.size w w4→
      ∃ w5,(Instr.mapUpdate 65 (.map (some gm)) (.int .i64 a) (bvv y)).run Tryz.prog w4=.ok () w5∧PutP b w gv gm gs rp n C a x.l (.returned (.tuple #[])) w5:=fun y w4 hy ho hb4=>by
    have h4:=h.below hb4;obtain ⟨w5,r5,m5,g5⟩:=h4.map.put ha (by unfold maxLen;omega) y;have c5:Chg [gm] w4 w5:=(Chg.refl _ _).grown g5 (fun k hk=>by injection hk with hk;subst hk;exact .inl (Zr.2 rfl));have n5:NoBytes w4 [gm]:=fun j hj cs fr=>by rw [Zr] at hj;subst hj;exact h4.map.no_cells _ _ _
    refine ⟨w5,r5,rfl,y,Za hy,Za (own_ge ho),Za ⟨c5.row h4.row (fun hx=>h.ne (Zr.1 hx)),m5,fun a' x' hx'=>?_,fun a' x' hx'=>?_,h.lo⟩,Za ((Chg.of (F:=[gm]) hb4).trans c5 (fun j hj=>.inl hj))⟩
    · by_cases e:a'=a
      · subst e;rw [upC_same] at hx';injection hx' with hx'
        subst hx';exact (ho.chg c5 n5).lower hb
      · rw [upC_other _ _ e] at hx';exact (h4.own a' x' hx').chg c5 n5
    · by_cases e:a'=a
      · subst e;rw [upC_same] at hx';injection hx' with hx'
        subst hx';rw [hy];exact hl
      · rw [upC_other _ _ e] at hx';exact h.len a' x' hx'
  have FIN:=Za fin;have HLT:=Za h.row.lt;clear h fin hx hl ha hn hb;go_enter Tryz.func71,Tryz.ntmps71;go_wp2;refine Zq (S:=fun W=>W.cell? ⟨gv,1,none⟩=some (.map (some gm))) (by kernel_rfl) c1 (fun hHeld=>?_);refine Ze (i:=0) (oi:=⟨some 6,.move (.tmp 0),_,_,_,_⟩) (v:=.pointer (some ⟨gv,0,none⟩)) rfl (by kernel_rfl) (by kernel_rfl) (by kernel_rfl) (fun _ _ _ h=>h) (.inl ⟨by rfl,fun w hSw=>by go_simp⟩) (by assumption) ?_;simp only [Act.put,Zb,Zc,Zd];refine Ze (i:=1) (oi:=⟨some 7,.nilCheck (.tmp 6),_,_,_,_⟩) (v:=.pointer (some ⟨gv,0,none⟩)) rfl (by kernel_rfl) (by kernel_rfl) (by kernel_rfl) (fun _ _ _ h=>h) (.inl ⟨by rfl,fun w hSw=>by go_simp⟩) (by assumption) ?_;simp only [Act.put,Zb,Zc,Zd];refine Ze (i:=2) (oi:=⟨some 8,.fieldAddr 68 (.tmp 7) 1,_,_,_,_⟩) (v:=.pointer (some ⟨gv,1,none⟩)) rfl (by kernel_rfl) (by kernel_rfl) (by kernel_rfl) (fun _ _ _ h=>h) (.inl ⟨by rfl,fun w hSw=>by go_simp⟩) (by assumption) ?_;simp only [Act.put,Zb,Zc,Zd];refine Ze (i:=3) (oi:=⟨some 9,.load 65 (.tmp 8),_,_,_,_⟩) (v:=.map (some gm)) rfl (by kernel_rfl) (by kernel_rfl) (by kernel_rfl) (fun _ _ _ h=>h) (.inl ⟨by rfl,fun w hSw=>by have z:=hSw;go_simp⟩) (by assumption) ?_;simp only [Act.put,Zb,Zc,Zd];refine Ze (i:=4) (oi:=⟨some 10,.move (.tmp 1),_,_,_,_⟩) (v:=.int .i64 a) rfl (by kernel_rfl) (by kernel_rfl) (by kernel_rfl) (fun _ _ _ h=>h) (.inl ⟨by rfl,fun w hSw=>by go_simp⟩) (by assumption) ?_;simp only [Act.put,Zb,Zc,Zd];refine Ze (i:=5) (oi:=⟨some 11,.move (.tmp 2),_,_,_,_⟩) (v:=.slice x.A x.l.length x.c) rfl (by kernel_rfl) (by kernel_rfl) (by kernel_rfl) (fun _ _ _ h=>h) (.inl ⟨by rfl,fun w hSw=>by go_simp⟩) (by assumption) ?_;simp only [Act.put,Zb,Zc,Zd];refine Zp (rs:=[6]) (by kernel_rfl) (by simp) ?_;refine Zl (o:=⟨some 12,.call ⟨.value (.func 108),#[.tmp 11],_⟩,_,_,_,_⟩) rfl (fun K hK=>?_) Zo;go_simp;go_at_call 108;refine HC.out.mono ?_;rintro e w4 ⟨y,rfl,hy,ho,hb4⟩;have hb5:Below w.heap.size w w4:=(below_drw w).trans hb4.out;obtain ⟨w5,r5,hp⟩:=FIN.out y w4 hy.out ho.out hb5;unfold bvv at r5;have HP:=Za hp;have c4:w4.cell? ⟨gv,1,none⟩=some (.map (some gm)):=((hb5.cell (p:=⟨gv,1,none⟩) HLT.out).trans c1);clear hp hy ho hb4 hb5;refine hK.out _ _ c4 (fun hH4=>?_);clear hK K;refine Zp (rs:=[7]) (by kernel_rfl) (by simp) ?_;refine Zl (o:=⟨none,.mapUpdate 65 (.tmp 9) (.tmp 10) (.tmp 12),_,_,_,_⟩) rfl (fun K hK=>?_) Zo;have c5:w5.cell? ⟨gv,1,none⟩=some (.map (some gm)):=by obtain ⟨_,y',_,_,hv,_⟩:=HP.out;exact hv.out.c1
  go_simp;refine hK.out _ _ c5 (fun hH5=>?_);clear hK K;refine Yg (by kernel_rfl) ?_ _;go_end0;exact HP.out
theorem built_view (gs gm:Nat):Tryz.prog.built 68 [(0,getV gs),(1,.map (some gm))]=some (vcs gs gm none).toArray:=by kernel_rfl
theorem vnew (gs:Nat) (w:World):Calls Tryz.prog 6 #[getV gs] w fun e w'=>∃ gv gm,e=.returned (.pointer (some ⟨gv,0,none⟩))∧Hid (VV w.heap.size w' gv gm gs none 0 fun _=>none)∧Hid (Below w.heap.size w w'):=by
  obtain ⟨gV,hV⟩:∃ gV,getV gs=gV:=⟨_,rfl⟩;have HB:=Za (p:=∀ gm,Tryz.prog.built 68 [(0,gV),(1,.map (some gm))]=some (vcs gs gm none).toArray) (fun gm=>by rw [← hV];exact built_view gs gm);rw [hV];clear hV;have hmm:=@run_makeMap Tryz.prog;go_enter Tryz.func6,Tryz.ntmps6
  go_wp2_with (first
    | (refine step_build rfl 68 _ rfl [(0,gV),(1,.map (some w.heap.size))] ?hv _ (HB.out _) ?_;case hv=>(simp [Act.eval,Act.put]))
    | (refine step_box rfl 6 rfl 68 _ rfl _ rfl ?_;intro g3 w1 hr1 hg1 hb1 hs1;have HR1:=Za hr1;have HB1:=Za hb1;have HG1:=Za (p:=w.heap.size≤g3) (by rw [hg1.out];simp);clear hr1 hb1 hg1 hs1))
  go_ret;refine ⟨g3,w.heap.size,rfl,Za ⟨HR1.out,(MC.made w).below HB1.out,(fun a x h=>by cases h),(fun a x h=>by cases h),HG1.out,Zj _⟩,Za (below_nxt HB1.out (below_al w _))⟩
end
/- A run's end:what gaveUp tells;the deferred function,behind a run that came to its end and behind one that gave up. Conditions:the cells lie there. -/
def runV (r:Nat):Value:=.iface 66 (.pointer (some ⟨r,0,none⟩))
theorem run_assert (r:Nat) (w:World):(Instr.typeAssert (runV r) 20 66 true).run Tryz.prog w=.ok (.tuple #[.pointer (some ⟨r,0,none⟩),.bool true]) w:=by kernel_rfl
theorem run_same (r:Nat) (w:World):(binOp .neq 66 (.pointer (some ⟨r,0,none⟩)) (.pointer (some ⟨r,0,none⟩))).run Tryz.prog w=.ok (.bool false) w:=by
  have hte:(Tryz.prog.info? 70).isSome=true:=by kernel_rfl
  obtain ⟨j,hj⟩:=Option.isSome_iff_exists.1 hte
  have h:∀ d:Nat,(Op.equalIn (d+1) 66 (.pointer (some ⟨r,0,none⟩)) (.pointer (some ⟨r,0,none⟩))).run Tryz.prog w=.ok true w:=fun d=>by
    simp [Op.equalIn,run_underlying Tryz.underlying66,sizeOf,typeInfo,hj,run_sameAddr_same]
  simp only [binOp];simp [Op.equal,Op.maxDepth,h 9999]
theorem vgave {w:World} {r:Nat} {a:Int} (hr:Row w r 70 (rcs true a)):Calls Tryz.prog 26 #[.pointer (some ⟨r,0,none⟩),runV r] w fun e w'=>e=.returned (.int .i64 a)∧w=w':=by
  have r1:w.cell? ⟨r,1,none⟩=some (.int .i64 a):=(hr.cell 1).trans rfl;have h1:=run_assert r;have h2:=run_same r;clear hr;unfold runV at h1 ⊢;go_enter Tryz.func26,Tryz.ntmps26;go_wp2;go_ret;exact ⟨rfl,rfl⟩
section
variable {b:Nat} {w w':World} {gv gm gs:Nat} {rp:Option Addr} {n:Nat} {C:Int→Option BV}
theorem cell_ne {w:World} {p i g:Nat} {v:Value} (hc:w.cell? ⟨p,i,none⟩=some v) (hn:∀ cs t fr,w.heap[g]?≠some (.cells cs t fr)):p≠g:=by
  intro e;subst e;unfold World.cell? at hc
  split at hc
  · rename_i cs t fr h
    exact hn _ _ _ h
  · cases hc
theorem vdefer_ok {r po pv pk pw ps:Nat} (h:VV b w gv gm gs (some ⟨r,0,none⟩) n C) (co:w.cell? ⟨po,0,none⟩=some (.pointer none)) (cv:w.cell? ⟨pv,0,none⟩=some (.pointer (some ⟨gv,0,none⟩))) (ck:w.cell? ⟨pk,0,none⟩=some (.bool true)) (hk:pk≠gv):
    CallsD Tryz.prog 25 #[.pointer (some ⟨po,0,none⟩),.pointer (some ⟨pv,0,none⟩),.pointer (some ⟨pk,0,none⟩),.pointer (some ⟨pw,0,none⟩),.pointer (some ⟨ps,0,none⟩)] .returning w fun e u' w'=>u'=.returning∧e=.returned (.tuple #[])∧w'=w.setCell ⟨gv,2,none⟩ (.pointer none):=by
  have c2:=h.c2;have f2:=h.row.free 2;have hk2:¬ gv=pk:=fun e=>hk e.symm;clear h;go_enter_d Tryz.func25,Tryz.ntmps25;go_wp2;refine Yd (results_none rfl _ _ _) rfl ?_;exact ⟨rfl,rfl⟩
theorem vdefer_not {r po pv pk pw ps:Nat} {a:Int} (h:VV b w gv gm gs (some ⟨r,0,none⟩) n C) (hr:Row w r 70 (rcs true a)) (co:w.cell? ⟨po,0,none⟩=some (.pointer none)) (cv:w.cell? ⟨pv,0,none⟩=some (.pointer (some ⟨gv,0,none⟩))) (ck:w.cell? ⟨pk,0,none⟩=some (.bool false)) (cw:w.cell? ⟨pw,0,none⟩=some (.pointer (some ⟨r,0,none⟩))) (cs:w.cell? ⟨ps,0,none⟩=some (.int .i64 0)) (fs:w.frozen? ⟨ps,0,none⟩=false)
    (hk:gv≠pk) (hv:gv≠pv) (hw:gv≠pw) (hs:gv≠ps):
    CallsD Tryz.prog 25 #[.pointer (some ⟨po,0,none⟩),.pointer (some ⟨pv,0,none⟩),.pointer (some ⟨pk,0,none⟩),.pointer (some ⟨pw,0,none⟩),.pointer (some ⟨ps,0,none⟩)] (.panicking [{ v:=runV r,recovered:=false }]) w fun e u' w'=>
      u'=.panicking [{ v:=runV r,recovered:=true }]∧e=.returned (.tuple #[])∧∃ w2,MC w2 gm 0 (fun _=>none)∧(w.setCell ⟨gv,2,none⟩ (.pointer none)).grownBy w2 (some gm)∧w'=w2.setCell ⟨ps,0,none⟩ (.int .i64 a):=by
  have c1:=h.c1;have c2:=h.c2;have f2:=h.row.free 2;obtain ⟨w2,hclr,hm2,hg2⟩:=(h.map.chg ((Chg.refl [gv] w).setCell (p:=⟨gv,2,none⟩) (.inl (Zr.2 rfl)) (.pointer none)) (fun hx=>h.ne (Zr.1 hx).symm)).clear_ 0;refine callsD_of_wpS Tryz.func25 rfl fun c₀ css hu=>?_;simp only [Tryz.ntmps25,List.size_toArray,List.length_cons,List.length_nil,Nat.reduceAdd,Nat.reduceSub,Array.replicate_succ,Array.replicate_zero,List.push_toArray,List.append_toArray,Zt,List.cons_append];apply wpS_seq;apply wpS_region;simp [wpOpsS,go_sem,Exit.thenS,co,cv,c2,f2];refine wpS_seq (wpS_seq ?_);apply wpS_region;have hk':¬ pk=gv:=fun e=>hk e.symm;have hv':¬ pv=gv:=fun e=>hv e.symm;have hw':¬ pw=gv:=fun e=>hw e.symm;have hs':¬ ps=gv:=fun e=>hs e.symm;simp [wpOpsS,go_sem,Exit.thenS,ck];refine wpS_cond (t:=false) (by simp [Act.eval]) ?_;simp only [Bool.false_eq_true,if_false];refine wpS_of_wp (wp_skip ?_);simp only [Exit.thenS];apply wpS_seq;apply wpS_region;simp [wpOpsS,go_sem,Exit.thenS,cv,c1,hclr];apply wpS_seq;apply wpS_region;simp [wpOpsS,go_sem,recoverD,hu,Exit.thenS,runV];apply wpS_seq;apply wpS_region;simp [wpOpsS,go_sem,Exit.thenS];refine wpS_cond (t:=true) (by simp [Act.eval]) ?_;simp only [if_true];refine wpS_of_wp ?_;have nw:pw≠gm:=cell_ne cw h.map.no_cells;have ns:ps≠gm:=cell_ne cs h.map.no_cells;have nr:r≠gm:=fun e=>h.map.no_cells _ _ _ (e ▸ hr.heap);have ngr:gv≠r:=h.row.ne_ hr (by decide);have cw2:w2.cell? ⟨pw,0,none⟩=some (.pointer (some ⟨r,0,none⟩)):=hg2.cell (((Chg.refl [gv] w).setCell (p:=⟨gv,2,none⟩) (.inl (Zr.2 rfl)) (.pointer none)).cell cw (fun hx=>hw' (Zr.1 hx))) (fun e=>nw (by injection e));have cs2:w2.cell? ⟨ps,0,none⟩=some (.int .i64 0):=hg2.cell (((Chg.refl [gv] w).setCell (p:=⟨gv,2,none⟩) (.inl (Zr.2 rfl)) (.pointer none)).cell cs (fun hx=>hs' (Zr.1 hx))) (fun e=>ns (by injection e))
  have fs2:w2.frozen? ⟨ps,0,none⟩=false:=by
    have e1:=hg2.block ps (by have:=Ya w _ cs;simp [World.setCell];exact this) (fun e=>ns (by injection e));have e2:=Below.heap_setCell w ⟨gv,2,none⟩ (.pointer none) ps hs';rw [e2] at e1;unfold World.frozen? at fs ⊢;rw [e1];exact fs
  have hr2:Row w2 r 70 (rcs true a):=(hr.far (p:=⟨gv,2,none⟩) (fun e=>ngr e.symm) _).grown hg2 (fun e=>nr (by injection e));have HG:=Za (vgave hr2);have HM:=Za hm2;have HG2:=Za hg2;unfold runV at HG;clear h hr hm2 hr2 hclr hu co cv ck c1 c2 f2;go_wp2_with (go_at_call 26;refine HG.out.mono ?_;rintro e w4 ⟨rfl,rfl⟩);exact ⟨rfl,_,rfl,_,results_none rfl _ _ _,rfl,rfl,w2,HM.out,HG2.out,rfl⟩
end
/- Run:a function on its way to its end. Conditions:the view lies there;the function does what is said of it. -/
section
variable {b:Nat} {w w':World} {gv gm gs:Nat} {n:Nat} {C:Int→Option BV}
def FunP (b:Nat) (gv gm gs r:Nat) (G:List Nat) (Done:World→(Int→Option BV)→World→Prop) (Gave:Int→World→Prop) (w1:World) (e:Ending) (w2:World):Prop:=
  (e=.returned (.tuple #[])∧∃ n' C',VV b w2 gv gm gs (some ⟨r,0,none⟩) n' C'∧n'≤3000∧Row w2 r 70 (rcs false 0)∧Chg G w1 w2∧Done w1 C' w2)∨
  (e=runE r∧∃ n' C' a,VV b w2 gv gm gs (some ⟨r,0,none⟩) n' C'∧Row w2 r 70 (rcs true a)∧Chg (r::G) w1 w2∧Gave a w2)
def RunP (b:Nat) (w:World) (gv gm gs:Nat) (G:List Nat) (Done:World→(Int→Option BV)→World→Prop) (Gave:Int→World→Prop) (e:Ending) (w':World):Prop:=
  (e=.returned (.tuple #[.int .i64 0,.bool true])∧∃ (n':Nat) (C':Int→Option BV) (w1 w2:World) (F:List Nat),VV b w' gv gm gs none n' C'∧n'≤3000∧Done w1 C' w2∧Chg F w2 w'∧(∀ x ∈ F,x=gv∨(w.heap.size≤x∧x<w1.heap.size))∧w.heap.size≤w1.heap.size∧Chg (gv::gm::G) w w')∨
  (∃ (a:Int) (w2:World),e=.returned (.tuple #[.int .i64 a,.bool false])∧VV b w' gv gm gs none 0 (fun _=>none)∧Gave a w2∧Chg (gv::gm::G) w w')
theorem zero_view_ptr (w:World):(zeroValue 66).run Tryz.prog w=.ok (.pointer none) w:=by kernel_rfl
theorem zero_int (w:World):(zeroValue 3).run Tryz.prog w=.ok (.int .i64 0) w:=by kernel_rfl
theorem zero_bool (w:World):(zeroValue 4).run Tryz.prog w=.ok (.bool false) w:=by kernel_rfl
theorem built_run:Tryz.prog.built 70 []=some (rcs false 0).toArray:=by kernel_rfl
theorem fun_nil (F:Nat) (caps:Array Value) (w:World):(binOp .neq 1 (.func (.func F) #[] caps) .nilFunc).run Tryz.prog w=.ok (.bool true) w:=by kernel_rfl
theorem VV.keepN {F:List Nat} {rp:Option Addr} (h:VV b w gv gm gs rp n C) (hc:Chg F w w') (h1:gv ∉ F) (h2:gm ∉ F) (hN:NoBytes w F):VV b w' gv gm gs rp n C:=
  ⟨hc.row h.row h1,h.map.chg hc h2,fun a x hx=>(h.own a x hx).chg hc hN,h.len,h.lo⟩
theorem row_noB {w:World} {p:Nat} {t:TypeId} {cs:List Value} (h:Row w p t cs) (ht:t≠5):∀ cs fr,w.heap[p]?≠some (.cells cs 5 fr):=by
  intro cs' fr e;have h1:=h.heap;rw [e] at h1;injection h1 with h1
  injection h1 with _ h2
  exact ht h2.symm
theorem VV.turn {rp:Option Addr} (h:VV b w gv gm gs rp n C) (rp':Option Addr):VV b (w.setCell ⟨gv,2,none⟩ (.pointer rp')) gv gm gs rp' n C:=by
  have hc:Chg [gv] w (w.setCell ⟨gv,2,none⟩ (.pointer rp')):=(Chg.refl [gv] w).setCell (p:=⟨gv,2,none⟩) (.inl (by simp)) _;exact ⟨h.row.put 2 _,h.map.chg hc (fun hx=>h.ne (Zr.1 hx).symm),fun a x hx=>(h.own a x hx).chg hc (fun j hj cs fr=>by rw [Zr] at hj;subst hj;exact row_noB h.row (by decide) _ _),h.len,h.lo⟩
theorem run_setup {wf w1:World} {po pw r:Nat} {t:TypeId} (h:VV b wf gv gm gs none n C) (rpo:Row wf po t [.pointer none]) (rpw:Row wf pw t [.pointer none]) (n1:po≠pw) (n2:gv≠po) (n3:gv≠pw) (ht:t≠5)
    (hm:MC w1 gm 0 fun _=>none) (hg:(((wf.setCell ⟨po,0,none⟩ (.pointer none)).setCell ⟨pw,0,none⟩ (.pointer (some ⟨r,0,none⟩))).setCell ⟨gv,2,none⟩ (.pointer (some ⟨r,0,none⟩))).grownBy w1 (some gm)):
    VV b w1 gv gm gs (some ⟨r,0,none⟩) 0 (fun _=>none)∧Row w1 po t [.pointer none]∧Row w1 pw t [.pointer (some ⟨r,0,none⟩)]∧Chg [po,pw,gv,gm] wf w1:=by
  have ng:gv≠gm:=h.ne;have np:po≠gm:=fun e=>h.map.no_cells _ _ _ (e ▸ rpo.heap);have nq:pw≠gm:=fun e=>h.map.no_cells _ _ _ (e ▸ rpw.heap);have hc:Chg [po,pw,gv,gm] wf w1:=((((Chg.refl [po,pw,gv,gm] wf).setCell (p:=⟨po,0,none⟩) (.inl (by simp)) _).setCell (p:=⟨pw,0,none⟩) (.inl (by simp)) _).setCell (p:=⟨gv,2,none⟩) (.inl (by simp)) _).grown hg (fun k hk=>by injection hk with hk;subst hk;exact .inl (by simp));refine ⟨⟨?_,hm,(fun a x hx=>by cases hx),(fun a x hx=>by cases hx),h.lo⟩,?_,?_,hc⟩
  · have h1:=((h.row.far (p:=⟨po,0,none⟩) n2 (.pointer none)).far (p:=⟨pw,0,none⟩) n3 (.pointer (some ⟨r,0,none⟩))).put 2 (.pointer (some ⟨r,0,none⟩));exact h1.grown hg (fun e=>ng (by injection e))
  · have h1:=((rpo.put 0 (.pointer none)).far (p:=⟨pw,0,none⟩) n1 (.pointer (some ⟨r,0,none⟩))).far (p:=⟨gv,2,none⟩) n2.symm (.pointer (some ⟨r,0,none⟩));exact h1.grown hg (fun e=>np (by injection e))
  · have h1:=((rpw.far (p:=⟨po,0,none⟩) n1.symm (.pointer none)).put 0 (.pointer (some ⟨r,0,none⟩))).far (p:=⟨gv,2,none⟩) n3.symm (.pointer (some ⟨r,0,none⟩));exact h1.grown hg (fun e=>nq (by injection e))
theorem vrun (F:Nat) (caps:Array Value) (G:List Nat) (Done:World→(Int→Option BV)→World→Prop) (Gave:Int→World→Prop) (h:VV b w gv gm gs none n C) (hG:∀ x ∈ G,x≠gv∧x<w.heap.size) (hcf:∀ w,(callFunc F caps).run Tryz.prog w=.ok (.enter F caps) w)
    (hf:∀ (r:Nat) (w1:World),VV b w1 gv gm gs (some ⟨r,0,none⟩) 0 (fun _=>none)→Row w1 r 70 (rcs false 0)→Chg [gv,gm] w w1→w.heap.size≤r→Calls Tryz.prog F caps w1 (FunP b gv gm gs r G Done Gave w1)):
    Calls Tryz.prog 8 #[.pointer (some ⟨gv,0,none⟩),.func (.func F) #[] caps] w (RunP b w gv gm gs G Done Gave):=by
  have hmf:∀ (fn:Fn) (first cap:Array Value) (w:World),(Instr.makeFunc fn first cap).run Tryz.prog w=.ok (.func fn first cap) w:=fun _ _ _ _=>rfl;have hfn:=fun_nil F caps;have H:=Za h;have HF:=Za hf;have HGG:=Za hG;clear h hf hG;go_enter_defers Tryz.func8,Tryz.ntmps8
  go_wp2_with (first
    | (refine step_box1 rfl 27 _ rfl (.pointer (some ⟨gv,0,none⟩)) rfl rfl ?_;intro pv wa hra hga hba;have HRa:=Za hra;have HBa:=Za hba;have HGa:=Za (p:=w.heap.size≤pv) (Nat.le_of_eq hga.out.symm);clear hra hga hba)
    | (refine step_new rfl 3 rfl (.int .i64 0) zero_int rfl ?_;intro ps wb hrb hgb hbb;have HRb:=Za hrb;have HBb:=Za hbb;have HGb:=Za (p:=wa.heap.size≤ps) (Nat.le_of_eq hgb.out.symm);clear hrb hgb hbb)
    | (refine step_new rfl 4 rfl (.bool false) zero_bool rfl ?_;intro pk wc hrc hgc hbc;have HRc:=Za hrc;have HBc:=Za hbc;have HGc:=Za (p:=wb.heap.size≤pk) (Nat.le_of_eq hgc.out.symm);clear hrc hgc hbc
       have HB3:=Za (p:=Below w.heap.size w wc) (below_nxt HBc.out (below_nxt HBb.out HBa.out));have v3:=(H.out.below HB3.out).c2;have p3:wc.cell? ⟨pv,0,none⟩=some (.pointer (some ⟨gv,0,none⟩)):=(((HRa.out.kept HBb.out).kept HBc.out).cell 0).trans rfl)
    | (refine step_build rfl 70 _ rfl [] ?hv _ built_run ?_;case hv=>(simp [Act.eval,Act.put]))
    | (refine step_box rfl 13 rfl 70 _ rfl (rcs false 0) rfl ?_;intro r wd hrd hgd hbd hsd;have HRd:=Za hrd;have HBd:=Za hbd;have HGd:=Za (p:=wc.heap.size≤r) (Nat.le_of_eq hgd.out.symm);clear hrd hgd hbd hsd v3 p3;have MK:=trivial)
    | (clear MK;refine step_new rfl 66 rfl (.pointer none) zero_view_ptr rfl ?_;intro po we hre hge hbe;have HRe:=Za hre;have HBe:=Za hbe;have HGe:=Za (p:=wd.heap.size≤po) (Nat.le_of_eq hge.out.symm);clear hre hge hbe)
    | (refine step_new rfl 66 rfl (.pointer none) zero_view_ptr rfl ?_;intro pw wf hrf hgf hbf;have HRf:=Za hrf;have HBf:=Za hbf;have HGf:=Za (p:=we.heap.size≤pw) (Nat.le_of_eq hgf.out.symm);clear hrf hgf hbf
       have HB6:=Za (p:=Below w.heap.size w wf) (below_nxt HBf.out (below_nxt HBe.out (below_nxt HBd.out HB3.out)));have HV6:=Za (H.out.below HB6.out);have R1:=Za (((((HRa.out.kept HBb.out).kept HBc.out).kept HBd.out).kept HBe.out).kept HBf.out);have R2:=Za ((((HRb.out.kept HBc.out).kept HBd.out).kept HBe.out).kept HBf.out);have R3:=Za (((HRc.out.kept HBd.out).kept HBe.out).kept HBf.out);have R4:=Za ((HRd.out.kept HBe.out).kept HBf.out);have R5:=Za (HRe.out.kept HBf.out)
       have ORD:=Za (p:=gv<pv∧w.heap.size≤pv∧pv<ps∧ps<pk∧pk<r∧r<po∧po<pw) (by
         have l0:=H.out.row.lt;have l1:=HRa.out.lt;have l2:=HRb.out.lt;have l3:=HRc.out.lt;have l4:=HRd.out.lt;have l5:=HRe.out.lt;have g1:=HGa.out;have g2:=HGb.out;have g3:=HGc.out;have g4:=HGd.out;have g5:=HGe.out;have g6:=HGf.out;omega)
       have n1:¬ po=pw:=by have:=ORD.out;omega
       have n2:¬ pw=po:=by have:=ORD.out;omega
       have n3:¬ po=pv:=by have:=ORD.out;omega
       have n4:¬ pw=pv:=by have:=ORD.out;omega
       have n5:¬ po=gv:=by have:=ORD.out;omega
       have n6:¬ pw=gv:=by have:=ORD.out;omega
       have n7:¬ gv=pv:=by have:=ORD.out;omega
       have n8:¬ gv=pw:=by have:=ORD.out;omega
       have n9:¬ gv=po:=by have:=ORD.out;omega
       have co:wf.cell? ⟨po,0,none⟩=some (.pointer none):=(R5.out.cell 0).trans rfl;have fo:=R5.out.free 0;have cw:wf.cell? ⟨pw,0,none⟩=some (.pointer none):=(HRf.out.cell 0).trans rfl;have fw:=HRf.out.free 0;have cv:wf.cell? ⟨pv,0,none⟩=some (.pointer (some ⟨gv,0,none⟩)):=(R1.out.cell 0).trans rfl;have c1:=HV6.out.c1;have c2:=HV6.out.c2;have f2:=HV6.out.row.free 2)
    | (refine wp_clear rfl (.tmp 21) rfl gm n C rfl (MC.chg (F:=[po,pw,gv]) HV6.out.map ((((Chg.refl [po,pw,gv] wf).setCell (p:=⟨po,0,none⟩) (.inl (by simp)) _).setCell (p:=⟨pw,0,none⟩) (.inl (by simp)) _).setCell (p:=⟨gv,2,none⟩) (.inl (by simp)) _) (by
         have ng:=HV6.out.ne;have np:po≠gm:=fun e=>HV6.out.map.no_cells _ _ _ (e ▸ R5.out.heap);have nq:pw≠gm:=fun e=>HV6.out.map.no_cells _ _ _ (e ▸ HRf.out.heap);simp [ng.symm,np.symm,nq.symm])) ?_
       intro w1 hm1 hg1;obtain ⟨V1,Ro,Rw,hC1⟩:=run_setup HV6.out R5.out HRf.out n1 n9 n8 (by decide) hm1 hg1;have HV1:=Za V1;have HRo:=Za Ro;have HRw:=Za Rw;have HC1:=Za hC1;clear V1 Ro Rw hC1 hm1 hg1 co fo cw fw cv c1 c2 f2 n1 n2 n3 n4 n5 n6 n7 n8 n9))
  have hC01:Chg [gv,gm] w w1:=(Chg.of (F:=[gv,gm]) HB6.out).trans HC1.out (fun x hx=>by
    have o:=ORD.out;simp only [List.mem_cons,List.mem_nil_iff,or_false] at hx;rcases hx with rfl | rfl | rfl | rfl
    · exact .inr (by omega)
    · exact .inr (by omega)
    · exact .inl (by simp)
    · exact .inl (by simp))
  have HC01:=Za hC01;have ngm:gm<w.heap.size:=H.out.map.lt
  have out:∀ x,gv<x→w.heap.size≤x→x≠po→x≠pw→x ∉ [po,pw,gv,gm]:=fun x h0 h1 h2 h3=>by
    simp only [List.mem_cons,List.mem_nil_iff,or_false,not_or];exact ⟨h2,h3,by omega,by omega⟩
  have Q1:=Za (HC1.out.row R1.out (out pv (by have:=ORD.out;omega) (by have:=ORD.out;omega) (by have:=ORD.out;omega) (by have:=ORD.out;omega)));have Q2:=Za (HC1.out.row R2.out (out ps (by have:=ORD.out;omega) (by have:=ORD.out;omega) (by have:=ORD.out;omega) (by have:=ORD.out;omega)));have Q3:=Za (HC1.out.row R3.out (out pk (by have:=ORD.out;omega) (by have:=ORD.out;omega) (by have:=ORD.out;omega) (by have:=ORD.out;omega)));have Q4:=Za (HC1.out.row R4.out (out r (by have:=ORD.out;omega) (by have:=ORD.out;omega) (by have:=ORD.out;omega) (by have:=ORD.out;omega)));clear out hC01 R1 R2 R3 R4 R5 HRa HRb HRc HRd HRe HRf HBa HBb HBc HBd HBe HBf;refine (HF.out r w1 HV1.out Q4.out HC01.out (by have:=ORD.out;omega)).mono ?_;rintro e w2 (⟨rfl,n',C',hv,hnn,hr,hc,hd⟩ | ⟨he,n',C',a,hv,hr,hc,hg⟩)
  · have o :=ORD.out;have nG:∀ x,w.heap.size≤x→x ∉ G:=fun x hx hm=>by have:=(HGG.out x hm).2;omega
    have T1:=Za (hc.row Q1.out (nG pv (by omega)));have T2:=Za (hc.row Q2.out (nG ps (by omega)));have T3:=Za (hc.row Q3.out (nG pk (by omega)));have To:=Za (hc.row HRo.out (nG po (by omega)));have Tw:=Za (hc.row HRw.out (nG pw (by omega)));have cw:w2.cell? ⟨pw,0,none⟩=some (.pointer (some ⟨r,0,none⟩)):=(Tw.out.cell 0).trans rfl;have r0:w2.cell? ⟨r,0,none⟩=some (.bool false):=(hr.cell 0).trans rfl;have r1:w2.cell? ⟨r,1,none⟩=some (.int .i64 0):=(hr.cell 1).trans rfl;have s0:w2.cell? ⟨ps,0,none⟩=some (.int .i64 0):=(T2.out.cell 0).trans rfl;have k0:w2.cell? ⟨pk,0,none⟩=some (.bool false):=(T3.out.cell 0).trans rfl;have fs:=T2.out.free 0;have fk:=T3.out.free 0;have n1:¬ ps=pw:=by omega
    have n2:¬ ps=r:=by omega
    have n3:¬ pk=pw:=by omega
    have n4:¬ pk=r:=by omega
    have n5:¬ ps=pk:=by omega
    have n6:¬ pk=ps:=by omega
    have HV2:=Za hv;have HR2:=Za hr;have HC2:=Za hc;have HD:=Za hd;have HNN:=Za hnn;clear hv hr hc hd o nG hnn;go_wp2;go_region;go_wp2;have hc3:Chg [ps,pk] w2 ((w2.setCell ⟨ps,0,none⟩ (.int .i64 0)).setCell ⟨pk,0,none⟩ (.bool true)).drew:=(((Chg.refl [ps,pk] w2).setCell (p:=⟨ps,0,none⟩) (.inl (by simp)) _).setCell (p:=⟨pk,0,none⟩) (.inl (by simp)) _).drew
    have hN:NoBytes w2 [ps,pk]:=fun j hj cs fr=>by
      simp only [List.mem_cons,List.mem_nil_iff,or_false] at hj;rcases hj with rfl | rfl
      · exact row_noB T2.out (by decide) _ _
      · exact row_noB T3.out (by decide) _ _
    have o:=ORD.out;have lm:gm<w.heap.size:=ngm;have V3:=HV2.out.keepN hc3 (by simp;omega) (by simp;omega) hN;have co3:=hc3.cell (v:=.pointer none) ((To.out.cell 0).trans rfl) (by simp;omega);have cv3:=hc3.cell (v:=.pointer (some ⟨gv,0,none⟩)) ((T1.out.cell 0).trans rfl) (by simp;omega);have ck3:((w2.setCell ⟨ps,0,none⟩ (.int .i64 0)).setCell ⟨pk,0,none⟩ (.bool true)).drew.cell? ⟨pk,0,none⟩=some (.bool true):=((((T3.out.far (p:=⟨ps,0,none⟩) n6 _).put 0 (.bool true)).drew).cell 0).trans rfl;have cs3:((w2.setCell ⟨ps,0,none⟩ (.int .i64 0)).setCell ⟨pk,0,none⟩ (.bool true)).drew.cell? ⟨ps,0,none⟩=some (.int .i64 0):=((((T2.out.put 0 (.int .i64 0)).far (p:=⟨pk,0,none⟩) n5 _).drew).cell 0).trans rfl;generalize ((w2.setCell ⟨ps,0,none⟩ (.int .i64 0)).setCell ⟨pk,0,none⟩ (.bool true)).drew=W3 at hc3 V3 co3 cv3 ck3 cs3 ⊢;refine leaves_cons (f:=25) (args:=#[.pointer (some ⟨po,0,none⟩),.pointer (some ⟨pv,0,none⟩),.pointer (some ⟨pk,0,none⟩),.pointer (some ⟨pw,0,none⟩),.pointer (some ⟨ps,0,none⟩)]) (by simp) (by simp [go_sem]) ?_;refine (vdefer_ok V3 co3 cv3 ck3 (by omega)).mono ?_;rintro e u' w' ⟨rfl,rfl,hw⟩;have hc4:Chg [gv] W3 w':=by rw [hw];exact (Chg.refl [gv] W3).setCell (p:=⟨gv,2,none⟩) (.inl (by simp)) _
    have ck4:=hc4.cell ck3 (by simp;omega);have cs4:=hc4.cell cs3 (by simp;omega);have V4:VV b w' gv gm gs none n' C':=by rw [hw];exact V3.turn none
    have hc34:Chg [ps,pk,gv] w2 w':=(hc3.wider (fun x hx=>.inl (by simp at hx ⊢;omega))).trans hc4 (fun x hx=>.inl (by simp at hx ⊢;omega))
    have fin:RunP b w gv gm gs G Done Gave (.returned (.tuple #[.int .i64 0,.bool true])) w':=by
      refine .inl ⟨rfl,n',C',w1,w2,[ps,pk,gv],V4,HNN.out,HD.out,hc34,fun x hx=>?_,HC01.out.size,?_⟩
      · have l1:=Q2.out.lt;have l2:=Q3.out.lt;simp at hx;rcases hx with rfl | rfl | rfl
        · exact .inr (by omega)
        · exact .inr (by omega)
        · exact .inl rfl
      · have h1:Chg (gv::gm::G) w w2:=(HC01.out.wider (fun x hx=>.inl (by simp at hx ⊢;omega))).trans HC2.out (fun x hx=>.inl (by simp [hx]))
        exact h1.trans hc34 (fun x hx=>by
          simp at hx;rcases hx with rfl | rfl | rfl
          · exact .inr (by omega)
          · exact .inr (by omega)
          · exact .inl (by simp))
    simp [Leaves,settle,results,Tryz.results8,go_sem,ck4,cs4];exact fin
  · unfold runE at he;subst he;have o:=ORD.out;have lm:gm<w.heap.size:=ngm
    have nG:∀ x,w.heap.size≤x→x≠r→x ∉ r::G:=fun x hx h0 hm=>by
      rcases List.mem_cons.1 hm with e | hm
      · exact h0 e
      · have:=(HGG.out x hm).2;omega
    have T1:=hc.row Q1.out (nG pv (by omega) (by omega));have T2:=hc.row Q2.out (nG ps (by omega) (by omega));have T3:=hc.row Q3.out (nG pk (by omega) (by omega));have To:=hc.row HRo.out (nG po (by omega) (by omega));have Tw:=hc.row HRw.out (nG pw (by omega) (by omega));refine leaves_cons (f:=25) (args:=#[.pointer (some ⟨po,0,none⟩),.pointer (some ⟨pv,0,none⟩),.pointer (some ⟨pk,0,none⟩),.pointer (some ⟨pw,0,none⟩),.pointer (some ⟨ps,0,none⟩)]) (by simp) (by simp [go_sem]) ?_;refine (vdefer_not hv hr ((To.cell 0).trans rfl) ((T1.cell 0).trans rfl) ((T3.cell 0).trans rfl) ((Tw.cell 0).trans rfl) ((T2.cell 0).trans rfl) (T2.free 0) (by omega) (by omega) (by omega) (by omega)).mono ?_;rintro e u' w' ⟨rfl,rfl,wB,hmB,hgB,hw⟩;have hcA:Chg [gv,gm] w2 wB:=((Chg.refl [gv,gm] w2).setCell (p:=⟨gv,2,none⟩) (.inl (by simp)) _).grown hgB (fun k hk=>by injection hk with hk;subst hk;exact .inl (by simp))
    have hcB:Chg [gv,gm,ps] w2 w':=by
      rw [hw];exact (hcA.wider (fun x hx=>.inl (by simp at hx ⊢;omega))).setCell (p:=⟨ps,0,none⟩) (.inl (by simp)) _
    have U2:Row w' ps 3 [.int .i64 a]:=by rw [hw];exact (hcA.row T2 (by simp;omega)).put 0 _
    have U3:Row w' pk 4 [.bool false]:=hcB.row T3 (by simp;omega);have cs4:w'.cell? ⟨ps,0,none⟩=some (.int .i64 a):=(U2.cell 0).trans rfl;have ck4:w'.cell? ⟨pk,0,none⟩=some (.bool false):=(U3.cell 0).trans rfl
    have V4:VV b w' gv gm gs none 0 fun _=>none:=by
      have ht:=(hv.turn none).row.grown hgB (fun e=>hv.ne (by injection e));refine ⟨?_,?_,(fun a x hx=>by cases hx),(fun a x hx=>by cases hx),hv.lo⟩
      · rw [hw];exact ht.far (p:=⟨ps,0,none⟩) (by show ¬ gv=ps;omega) _
      · rw [hw];exact hmB.chg ((Chg.refl [ps] wB).setCell (p:=⟨ps,0,none⟩) (.inl (by simp)) _) (by simp;omega)
    have fin:RunP b w gv gm gs G Done Gave (.returned (.tuple #[.int .i64 a,.bool false])) w':=by
      refine .inr ⟨a,w2,rfl,V4,hg,?_⟩
      have h1:Chg (gv::gm::G) w w2:=(HC01.out.wider (fun x hx=>.inl (by simp at hx ⊢;omega))).trans hc (fun x hx=>by
        rcases List.mem_cons.1 hx with e | hx
        · exact .inr (by omega)
        · exact .inl (by simp [hx]))
      exact h1.trans hcB (fun x hx=>by
        simp at hx;rcases hx with rfl | rfl | rfl
        · exact .inl (by simp)
        · exact .inl (by simp)
        · exact .inr (by omega))
    simp [Leaves,settle,results,Tryz.results8,go_sem,ck4,cs4];exact fin
end
/- Changes:what was put,by rising slots. Conditions:the view lies there. -/
structure PutsAt (w:World) (A:Option Addr) (ps:List (Int × BV)):Prop where
  lies:Lies pcs 2 w A ps
  hol:∀ p ∈ ps,Hol w p.2.A p.2.l
  len:∀ p ∈ ps,p.2.l.length≤131072
  lim:ps.length≤3000
theorem PutsAt.below {w w':World} {A:Option Addr} {ps:List (Int × BV)} (h:PutsAt w A ps) (hb:Below w.heap.size w w'):PutsAt w' A ps:=⟨h.lies.below hb,fun p hp=>(h.hol p hp).below hb,h.len,h.lim⟩
def chL (ps:List (Int × BV)):List (Int × List UInt8):=ps.map fun p=>(p.1,p.2.l)
structure ChOf (C:Int→Option (List UInt8)) (cs:List (Int × List UInt8)):Prop where
  lt:cs.Pairwise (fun x y=>x.1<y.1)
  mem:∀ s l,(s,l) ∈ cs↔C s=some l
def byL (C:Int→Option BV):Int→Option (List UInt8):=fun a=>(C a).map (·.l)
theorem ChOf.one {C:Int→Option (List UInt8)}:∀ {a b:List (Int × List UInt8)},ChOf C a→ChOf C b→a=b:=by
  suffices H:∀ (a b:List (Int × List UInt8)),a.Pairwise (fun x y=>x.1<y.1)→b.Pairwise (fun x y=>x.1<y.1)→(∀ p,p ∈ a↔p ∈ b)→a=b from
    fun {a b} ha hb=>H a b ha.lt hb.lt (fun p=>by rw [show p=(p.1,p.2) from rfl,ha.mem,hb.mem])
  intro a
  induction a with
  | nil=>
    intro b _ _ h
    cases b with
    | nil=>rfl
    | cons y b=>have:=(h y).2 (by simp);simp at this
  | cons x a ih=>
    intro b ha hb h
    cases b with
    | nil=>have:=(h x).1 (by simp);simp at this
    | cons y b=>
      obtain ⟨ha1,ha2⟩:=List.pairwise_cons.1 ha;obtain ⟨hb1,hb2⟩:=List.pairwise_cons.1 hb
      have hxy:x=y:=by
        have h1:=(h x).1 (by simp);have h2:=(h y).2 (by simp);rcases List.mem_cons.1 h1 with e | h1
        · exact e
        · rcases List.mem_cons.1 h2 with e | h2
          · exact e.symm
          · have:=hb1 x h1;have:=ha1 y h2;omega
      subst hxy;rw [ih b ha2 hb2];intro z;constructor
      · intro hz;have:=ha1 z hz;rcases List.mem_cons.1 ((h z).1 (by simp [hz])) with e | e
        · subst e;omega
        · exact e
      · intro hz;have:=hb1 z hz;rcases List.mem_cons.1 ((h z).2 (by simp [hz])) with e | e
        · subst e;omega
        · exact e
theorem chof_keys {C:Int→Option BV} {n:Nat} {ks:List Int} (hk:Keys C n ks) {ps:List (Int × BV)} (h1:ps.map (·.1)=ks) (h2:∀ p ∈ ps,∃ x,C p.1=some x∧x.l=p.2.l):ChOf (byL C) (chL ps):=by
  refine ⟨?_,fun s l=>?_⟩
  · have:=hk.lt;rw [← h1,List.pairwise_map] at this;unfold chL;rw [List.pairwise_map];exact this
  · unfold chL byL;rw [List.mem_map];constructor
    · rintro ⟨p,hp,e⟩;obtain ⟨x,hx,hl⟩:=h2 p hp;injection e with e1 e2
      rw [← e1,hx, ← e2, ← hl];rfl
    · intro h;obtain ⟨x,hx,rfl⟩:=Option.map_eq_some_iff.1 h;have hm:=(hk.mem s).2 (by rw [hx];rfl);rw [← h1,List.mem_map] at hm;obtain ⟨p,hp,rfl⟩:=hm;obtain ⟨y,hy,hl⟩:=h2 p hp;rw [hx] at hy;injection hy with hy
      subst hy;exact ⟨p,hp,by rw [hl]⟩
theorem built_put (a:Int) (A:Option Addr) (n c:Nat):Tryz.prog.built 159 [(0,.int .i64 a),(1,.slice A n c)]=some #[.int .i64 a,.slice A n c]:=by kernel_rfl
section
variable {b:Nat} {w w':World} {gv gm gs:Nat} {rp:Option Addr} {n:Nat} {C:Int→Option BV}
def ChP (w:World) (C:Int→Option BV) (e:Ending) (w':World):Prop:=∃ ps A c,e=.returned (.slice A ps.length c)∧Hid (ChOf (byL C) (chL ps))∧Hid (PutsAt w' A ps)∧Hid (Below w.heap.size w w')
def ChP2 (w:World) (C:Int→Option BV) (e:Ending) (w':World):Prop:=∃ ps A c,e=.returned (.slice A ps.length c)∧Hid (ChOf (byL C) (chL ps))∧Hid (PutsAt w' A ps)∧Hid (Below w.heap.size w w')∧Hid (w'.ownsRow w.heap.size 159 2 (.slice A ps.length c) ps.length (ps.flatMap pcs)∧∀ p ∈ ps,Own8 w.heap.size w' p.2)
theorem vchanges2 (h:VV b w gv gm gs rp n C) (hn:n≤3000):Calls Tryz.prog 100 #[.pointer (some ⟨gv,0,none⟩)] w (ChP2 w C):=by
  have c1:=h.c1;have HK:=Za (fun W=>keys_call (some gm) W);have HS:=Za (h.map.sorted (by omega));have H:=Za h;have HN:=Za hn;have HBP:=Za built_put;clear h hn;go_enter Tryz.func100,Tryz.ntmps100
  go_wp2_with (first
    | (go_at_call 128;refine (HK.out _).mono ?_;rintro e w2 ⟨rfl,rfl⟩)
    | (go_at_call 127;refine HS.out.mono ?_;rintro e w3 ⟨ks,A,c,rfl,hk,ho,hb⟩;have HB3:=Za (below_nxt hb.out (below_al w _))
       have HL:=Za (Lies.own (by decide) kcs_len ho.out);have HKK:=hk;clear ho hb hk))
  have hbase:w.heap.size≤w3.heap.size:=HB3.out.size;go_loopw [3,13] (fun x y wr=>∃ (k:Nat) (ps:List (Int × BV)) (A':Option Addr) (m c':Nat),Hid (k≤ks.length)∧y=.int .i64 (k:Int)∧x=.slice A' m c'∧Hid (m=ps.length)∧Hid (ps.map (·.1)=ks.take k)∧Hid (∀ p ∈ ps,∃ x,C p.1=some x∧x.l=p.2.l)∧Hid (wr.ownsRow w3.heap.size 159 2 (.slice A' m c') m (ps.flatMap pcs))∧Hid (∀ p ∈ ps,Own8 w3.heap.size wr p.2)∧Hid (Below w3.heap.size w3 wr)) (fun _ y _=>ks.length - (intOf y).toNat)
  case atStart=>exact ⟨0,[],none,0,0,Za (Nat.zero_le _),rfl,rfl,Za rfl,Za rfl,Za (by simp),Za (Ye _ _ _ _),Za (by simp),Za (Below.refl _ _)⟩
  case round =>
    clear c1;obtain ⟨k,ps,A',m,c',HKL,rfl,rfl,HM,HPK,HPC,HO,HO8,HBR⟩:=hrel;by_cases hk:k<ks.length
    · have hki:(k:Int)<(ks.length:Int):=by omega
      obtain ⟨g,o,rfl,hc⟩:=(HL.out.below HBR.out).at_ hk
      obtain ⟨z,hz⟩:∃ z,ks[k]=z:=⟨_,rfl⟩;rw [hz] at hc;have cz:=hc 0 _ rfl;simp only [Nat.mul_one,Nat.add_zero] at cz;have hzs:ks[k]?=some z:=by rw [Zh hk,hz]
      have hCz:=(HKK.out.mem z).1 (by rw [← hz];exact List.getElem_mem _);obtain ⟨x,hx⟩:=Option.isSome_iff_exists.1 hCz;have HR:=H.out.below (below_nxt HBR.out HB3.out);have c1:=HR.c1;have hlk:=HR.map.look (HR.map.i64 hCz);rw [hx] at hlk;unfold bvo bvv at hlk;simp only at hlk;have HC8:=Za (clone8 x wr (HR.own z x hx).hol (HR.len z x hx));have HZ:=Za hzs;have HX:=Za hx;have HKT:=Za hk;have hkw:IntKind.i64.wrap ((k:Int)+1)=(k:Int)+1:=by rw [Zg];have:=HKK.out.le;have:=HN.out;omega
      clear hc hz hzs hCz hx HR hk
      go_wp2_with (first
        | (go_at_call 108;refine HC8.out.mono ?_;rintro e w4 ⟨y,rfl,hy,ho,hb⟩;have HY:=hy;have HO4:=ho;have HB4:=hb;clear hy ho hb)
        | (refine step_build rfl 159 _ rfl [(0,.int .i64 z),(1,.slice y.A y.l.length y.c)] ?hv _ (HBP.out _ _ _ _) ?_;case hv=>(simp [Act.eval,Act.put]))
        | (at_builtin
           refine wp_join rfl _ _ rfl rec_put w3.heap.size (.slice A' m c') m (ps.flatMap pcs) rfl ((own_kept HO.out HB4.out).alloc _) (some ⟨w4.heap.size,0,none⟩) 1 1 (pcs (z,y)) rfl rfl (made_src w4 (pcs (z,y)) _) (pcs_one _) (by have:=HM.out;have h2:=congrArg List.length HPK.out;rw [List.length_map,Zu] at h2;have:=HKK.out.le;have:=HN.out;omega) (by have:=HBR.out.size;have:=HB4.out.size;simp;omega) ?_;intro v1 w5 ho1 hg1 hat1;have hlow:w3.heap.size≤w4.heap.size:=by have:=HBR.out.size;have:=HB4.out.size;omega
           obtain ⟨A1,c1',rfl,ho2,hb2⟩:=row_more (x:=(z,y)) (HBR.out.trans (HB4.out.mono HBR.out.size)) hlow (own_kept HO.out HB4.out) ho1 hg1;have HO2:=Za ho2;have HB2:=Za hb2
           have HE2:=Za (p:=∀ p ∈ ps++[(z,y)],Own8 w3.heap.size w5 p.2) (fun p hp=>by
             rcases List.mem_append.1 hp with hp | hp
             · exact own8_more (by decide) (own_kept HO.out HB4.out) ((HO8.out p hp).below HB4.out) hg1
             · rw [Zr] at hp;subst hp;exact own8_more (by decide) (own_kept HO.out HB4.out) (HO4.out.lower HBR.out.size) hg1)
           clear ho1 hg1 hat1 ho2 hb2))
      go_roundw
      case rel=>
        refine ⟨k+1,ps++[(z,y)],A1,m+1,c1',Za HKT.out,by go_num,rfl,Za (by rw [Zf,HM.out];rfl),Za ?_,Za (fun p hp=>?_),HO2,HE2,HB2⟩
        · rw [List.map_append,HPK.out,List.take_add_one,HZ.out];rfl
        · rcases List.mem_append.1 hp with hp | hp
          · exact HPC.out p hp
          · rw [Zr] at hp;subst hp;exact ⟨x,HX.out,HY.out.symm⟩
      case measure=>have:=HKT.out;simp [intOf];omega
    · have hkz:¬ (k:Int)<(ks.length:Int):=by omega
      have hke:k=ks.length:=by have:=HKL.out;omega
      have HKE:=Za hke;clear hk hke;go_wp2;go_ret;have hps:ps.map (·.1)=ks:=by rw [HPK.out,HKE.out,List.take_length]
      obtain rfl:=HM.out
      exact ⟨ps,A',c',rfl,Za (chof_keys HKK.out hps HPC.out),Za ⟨Lies.own (by decide) pcs_len HO.out,fun p hp=>(HO8.out p hp).hol,fun p hp=>by
        obtain ⟨x,hx,hl⟩:=HPC.out p hp;rw [← hl];exact H.out.len _ _ hx,by have h3:=congrArg List.length hps;rw [List.length_map] at h3;have:=HKK.out.le;have:=HN.out;omega⟩,Za ((HB3.out).trans (HBR.out.mono hbase)),Za ⟨own_lower HO.out hbase,fun p hp=>(HO8.out p hp).lower hbase⟩⟩
theorem vchanges (h:VV b w gv gm gs rp n C) (hn:n≤3000):Calls Tryz.prog 100 #[.pointer (some ⟨gv,0,none⟩)] w (ChP w C):=by
  refine (vchanges2 h hn).mono ?_;rintro e w' ⟨ps,A,c,h1,h2,h3,h4,_⟩;exact ⟨ps,A,c,h1,h2,h3,h4⟩
end
/- Rows compared part by part;a row as one of several results. No conditions. -/
section
variable {P:Program} (w:World)
theorem size_of {t:TypeId} {n:Nat} (h:(P.info? t).map (·.size)=some n) (w:World):(sizeOf t).run P w=.ok n w:=by
  cases hq:P.info? t with
  | none=>simp [hq] at h
  | some i=>
    have hi:i.size=n:=by simpa [hq] using h
    simp [sizeOf,typeInfo,hq,hi]
theorem run_equalIn_parts (d:Nat) (t e:TypeId) (n k:Nat) (ht:P.underlying t=some (.array n e)) (hsz:(P.info? e).map (·.size)=some k) (xs ys:Array Value) (px py:Nat→Value) (b:Nat→Bool)
    (hx:∀ i,i<n→∀ w,(part e xs (i*k)).run P w=.ok (px i) w) (hy:∀ i,i<n→∀ w,(part e ys (i*k)).run P w=.ok (py i) w) (he:∀ i,i<n→∀ w,(Op.equalIn d e (px i) (py i)).run P w=.ok (b i) w):
    (Op.equalIn (d+1) t (.agg xs) (.agg ys)).run P w=.ok ((List.range n).all b) w:=by
  rw [List.range_eq_range',Op.equalIn];simp only [Sem.run_bind,run_underlying ht,Zw,size_of hsz,Std.Legacy.Range.forIn_eq_forIn_range',Std.Legacy.Range.size,Nat.sub_zero,Nat.add_sub_cancel,Nat.div_one];have hl:∀ i ∈ List.range' 0 n 1,i<n:=fun i hi=>by simpa using (List.mem_range'_1.1 hi).2
  generalize List.range' 0 n 1=l at hl ⊢
  induction l with
  | nil=>simp
  | cons i l ih=>
    have hi:i<n:=hl i (by simp);simp only [List.forIn_cons,Sem.run_bind,hx i hi,hy i hi,he i hi,Zw,List.all_cons];cases hb:b i
    · simp
    · simp only [Bool.not_true,Bool.false_eq_true,if_false,Sem.run_pure,Zw,Bool.true_and];exact ih fun j hj=>hl j (by simp [hj])
end
section
variable {P:Program} {ops:Array Oper} {rest:List Oper} {o:Oper} {a:Act} {w:World} {Q:Exit→Act→World→Prop}
theorem step_load_g (hw:Region.wanted o (yielded ops a.tmps)=true) (d:Tmp) (hd:o.dst=some d) (ty:TypeId) (x:Operand) (ho:o.op=.load ty x) (g:Nat) (hx:a.eval x=.pointer (some ⟨g,0,none⟩)) (cs:List Value) (dd:TypeDesc)
    (hr:w.rangeAt g 0 cs) (hu:P.underlying ty=some dd) (hdd:dd.isRow=true) (hi:(P.info? ty).map (·.size)=some cs.length)
    (h:wpList P ops Q rest (a.put o.dst (.agg cs.toArray)) w):wpList P ops Q (o::rest) a w:=by
  refine wpList_step fun K hK=>?_;rw [if_pos hw];exact wp_load_mid ty x ho g 0 hx cs dd hr hu hdd hi (hK _ _ h)
theorem step_neq (hw:Region.wanted o (yielded ops a.tmps)=true) (t t':TypeId) (x y:Operand) (ho:o.op=.binOp .neq t x y t') (xs ys:Array Value) (hx:a.eval x=.agg xs) (hy:a.eval y=.agg ys) (hg:P.eqGuardType P.depth t=false) (b:Bool)
    (he:∀ w,(Op.equalIn 10000 t (.agg xs) (.agg ys)).run P w=.ok b w)
    (h:wpList P ops Q rest (a.put o.dst (.bool (!b))) w):wpList P ops Q (o::rest) a w:=by
  refine wpList_step fun K hK=>?_;rw [if_pos hw];unfold Oper.wp execOp;simp only [ho,hx,hy,Sem.run_bind,run_eqGuard_agg w _ t x y xs ys hg,run_neq_struct,he,Zw];exact hK _ _ h
end
section
variable {P:Program}
theorem results_row_two {fn:Func} {p u v:Tmp} {ty:TypeId} (h:fn.results=#[.cell p ty,.tmp u,.tmp v]) (tmps:Array Value) (w:World) (g:Nat) (t:TypeId) (cs:Array Value) (fr:Nat × Nat) (d:TypeDesc)
    (hp:tmps.getD p undef=.pointer (some ⟨g,0,none⟩)) (hg:w.heap[g]?=some (.cells cs t fr))
    (hu:P.underlying ty=some d) (hd:(match d with | .struct _ | .array _ _=>true | _=>false)=true) (hi:(P.info? ty).map (·.size)=some cs.size):
    (results fn tmps).run P w=.ok (.tuple #[.agg cs,tmps.getD u undef,tmps.getD v undef]) w:=by
  have hp':tmps[p]?.getD undef=.pointer (some ⟨g,0,none⟩):=by simpa using hp
  simp [results,h,hp',asAddr,run_loadVar_row w g t ty cs fr d hg hu hd hi]
theorem results_row_tmp {fn:Func} {p u:Tmp} {ty:TypeId} (h:fn.results=#[.cell p ty,.tmp u]) (tmps:Array Value) (w:World) (g:Nat) (t:TypeId) (cs:Array Value) (fr:Nat × Nat) (d:TypeDesc)
    (hp:tmps.getD p undef=.pointer (some ⟨g,0,none⟩)) (hg:w.heap[g]?=some (.cells cs t fr))
    (hu:P.underlying ty=some d) (hd:(match d with | .struct _ | .array _ _=>true | _=>false)=true) (hi:(P.info? ty).map (·.size)=some cs.size):
    (results fn tmps).run P w=.ok (.tuple #[.agg cs,tmps.getD u undef]) w:=by
  rw [results_cell_tmp h tmps P w,hp];simp [asAddr,run_loadVar_row w g t ty cs fr d hg hu hd hi]
end
end Go.Proofs.YtijffkklhgnknaaGreatDoor
