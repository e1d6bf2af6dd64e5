/- A super's cells; what a change of one of its parts makes of them; when two are the same. No conditions. -/
import Derived.Test.YtijffkklhgnknaaGreatDoorAz
import Derived.Test.YtijffkklhgnknaaGreatDoorMgKd
import Derived.Test.YtijffkklhgnknaaGreatDoorMgChg
import Derived.StillTailTactics
import Derived.Deep.QuietTactic
import Derived.BigQuiet
import Derived.BigGuard
import Derived.Test.YtijffkklhgnknaaGreatDoorChecked
import Derived.Test.YtijffkklhgnknaaGreatDoorMgMem
import Derived.WalkKit
import Derived.WalkMore
import Derived.WalkSpells
import Derived.WalkLawsBesides
import Derived.Outline
set_option maxHeartbeats 20000000
set_option linter.unusedVariables false
set_option maxRecDepth 20000
namespace Go.Proofs.YtijffkklhgnknaaGreatDoor
open Go.RowKit
structure Sup where
  s:Nat
  u:Nat→Bool
  i:Nat→Int
  o:Nat→Bool
def bls (n:Nat) (f:Nat→Bool):List Value:=(List.range n).map fun j=>.bool (f j)
def inl (n:Nat) (f:Nat→Int):List Value:=(List.range n).map fun j=>.int .i64 (f j)
theorem bls_len (n:Nat) (f:Nat→Bool):(bls n f).length=n:=by simp [bls]
theorem inl_len (n:Nat) (f:Nat→Int):(inl n f).length=n:=by simp [inl]
theorem bls_get {n j:Nat} (f:Nat→Bool) (h:j<n):(bls n f)[j]?=some (.bool (f j)):=by simp [bls,h]
theorem inl_get {n j:Nat} (f:Nat→Int) (h:j<n):(inl n f)[j]?=some (.int .i64 (f j)):=by simp [inl,h]
def Sup.cs (x:Sup):List Value:=.int .u64 (x.s:Int)::(bls 256 x.u++(inl 65 x.i++bls 65 x.o))
theorem Sup.cs_len (x:Sup):x.cs.length=387:=by simp [Sup.cs,bls_len,inl_len]
theorem Sup.cs_get (x:Sup) (k:Nat):x.cs[k]?=if k=0 then some (.int .u64 x.s) else if k<257 then some (.bool (x.u (k - 1))) else if k<322 then some (.int .i64 (x.i (k - 257))) else if k<387 then some (.bool (x.o (k - 322))) else none:=by
  cases k with
  | zero=>rfl
  | succ k=>
    unfold Sup.cs;rw [List.getElem?_cons_succ,if_neg (by omega)];by_cases h1:k<256
    · rw [Zv (by rw [bls_len];exact h1),bls_get _ h1,if_pos (by omega)];rfl
    · rw [Zm (by rw [bls_len];omega),bls_len,if_neg (by omega)];by_cases h2:k<321
      · rw [Zv (by rw [inl_len];omega),inl_get _ (by omega),if_pos (by omega),show k+1 - 257=k - 256 by omega]
      · rw [Zm (by rw [inl_len];omega),inl_len,if_neg (by omega)];by_cases h3:k<386
        · rw [bls_get _ (by omega),if_pos (by omega),show k - 256 - 65=k+1 - 322 by omega]
        · rw [List.getElem?_eq_none (by rw [bls_len];omega),if_neg (by omega)]
theorem Sup.c_s (x:Sup):x.cs[0]?=some (.int .u64 x.s):=rfl
theorem Sup.c_u (x:Sup) {j:Nat} (h:j<256):x.cs[1+j]?=some (.bool (x.u j)):=by
  rw [x.cs_get,if_neg (by omega),if_pos (by omega),show 1+j - 1=j by omega]
theorem Sup.c_i (x:Sup) {j:Nat} (h:j<65):x.cs[257+j]?=some (.int .i64 (x.i j)):=by
  rw [x.cs_get,if_neg (by omega),if_neg (by omega),if_pos (by omega),show 257+j - 257=j by omega]
theorem Sup.c_o (x:Sup) {j:Nat} (h:j<65):x.cs[322+j]?=some (.bool (x.o j)):=by
  rw [x.cs_get,if_neg (by omega),if_neg (by omega),if_neg (by omega),if_pos (by omega),show 322+j - 322=j by omega]
theorem Sup.cs_one (x:Sup):∀ v ∈ x.cs,v.oneCell'=true:=by
  intro v hv;unfold Sup.cs at hv;rcases List.mem_cons.1 hv with rfl | hv
  · rfl
  · rcases List.mem_append.1 hv with hv | hv
    · obtain ⟨_,_,rfl⟩:=List.mem_map.1 hv;rfl
    · rcases List.mem_append.1 hv with hv | hv
      · obtain ⟨_,_,rfl⟩:=List.mem_map.1 hv;rfl
      · obtain ⟨_,_,rfl⟩:=List.mem_map.1 hv;rfl
def at1 {α:Type} (f:Nat→α) (j:Nat) (v:α):Nat→α:=fun k=>if k=j then v else f k
theorem at1_same {α:Type} (f:Nat→α) (j:Nat) (v:α):at1 f j v j=v:=if_pos rfl
theorem at1_other {α:Type} (f:Nat→α) {j k:Nat} (v:α) (h:k≠j):at1 f j v k=f k:=if_neg h
def Sup.setU (x:Sup) (j:Nat) (b:Bool):Sup:=⟨x.s,at1 x.u j b,x.i,x.o⟩
def Sup.setI (x:Sup) (j:Nat) (v:Int):Sup:=⟨x.s,x.u,at1 x.i j v,x.o⟩
def Sup.setO (x:Sup) (j:Nat) (b:Bool):Sup:=⟨x.s,x.u,x.i,at1 x.o j b⟩
def Sup.setS (x:Sup) (n:Nat):Sup:=⟨n,x.u,x.i,x.o⟩
theorem Sup.set_s (x:Sup) (n:Nat):x.cs.set 0 (.int .u64 n)=(x.setS n).cs:=rfl
theorem Sup.set_u (x:Sup) {j:Nat} (b:Bool) (h:j<256):x.cs.set (1+j) (.bool b)=(x.setU j b).cs:=by
  apply List.ext_getElem?;intro k;rw [List.getElem?_set,Sup.cs_len,Sup.cs_get,Sup.cs_get];by_cases hk:1+j=k
  · subst hk;rw [if_pos rfl,if_pos (by omega),if_neg (by omega),if_pos (by omega),show 1+j - 1=j by omega];exact congrArg (fun z=>some (Value.bool z)) (at1_same x.u j b).symm
  · rw [if_neg hk];by_cases h0:k=0
    · rw [if_pos h0,if_pos h0];rfl
    · by_cases h1:k<257
      · rw [if_neg h0,if_neg h0,if_pos h1,if_pos h1];exact congrArg (fun z=>some (Value.bool z)) (at1_other x.u b (by omega)).symm
      · rw [if_neg h0,if_neg h0,if_neg h1,if_neg h1];rfl
theorem Sup.set_i (x:Sup) {j:Nat} (v:Int) (h:j<65):x.cs.set (257+j) (.int .i64 v)=(x.setI j v).cs:=by
  apply List.ext_getElem?;intro k;rw [List.getElem?_set,Sup.cs_len,Sup.cs_get,Sup.cs_get];by_cases hk:257+j=k
  · subst hk;rw [if_pos rfl,if_pos (by omega),if_neg (by omega),if_neg (by omega),if_pos (by omega),show 257+j - 257=j by omega];exact congrArg (fun z=>some (Value.int .i64 z)) (at1_same x.i j v).symm
  · rw [if_neg hk];by_cases h0:k=0
    · rw [if_pos h0,if_pos h0];rfl
    · by_cases h1:k<257
      · rw [if_neg h0,if_neg h0,if_pos h1,if_pos h1];rfl
      · by_cases h2:k<322
        · rw [if_neg h0,if_neg h0,if_neg h1,if_neg h1,if_pos h2,if_pos h2];exact congrArg (fun z=>some (Value.int .i64 z)) (at1_other x.i v (by omega)).symm
        · rw [if_neg h0,if_neg h0,if_neg h1,if_neg h1,if_neg h2,if_neg h2];rfl
theorem Sup.set_o (x:Sup) {j:Nat} (b:Bool) (h:j<65):x.cs.set (322+j) (.bool b)=(x.setO j b).cs:=by
  apply List.ext_getElem?;intro k;rw [List.getElem?_set,Sup.cs_len,Sup.cs_get,Sup.cs_get];by_cases hk:322+j=k
  · subst hk;rw [if_pos rfl,if_pos (by omega),if_neg (by omega),if_neg (by omega),if_neg (by omega),if_pos (by omega),show 322+j - 322=j by omega];exact congrArg (fun z=>some (Value.bool z)) (at1_same x.o j b).symm
  · rw [if_neg hk];by_cases h0:k=0
    · rw [if_pos h0,if_pos h0];rfl
    · by_cases h1:k<257
      · rw [if_neg h0,if_neg h0,if_pos h1,if_pos h1];rfl
      · by_cases h2:k<322
        · rw [if_neg h0,if_neg h0,if_neg h1,if_neg h1,if_pos h2,if_pos h2];rfl
        · rw [if_neg h0,if_neg h0,if_neg h1,if_neg h1,if_neg h2,if_neg h2];by_cases h3:k<387
          · rw [if_pos h3,if_pos h3];exact congrArg (fun z=>some (Value.bool z)) (at1_other x.o b (by omega)).symm
          · rw [if_neg h3,if_neg h3]
def sup0:Sup:=⟨0,fun _=>false,fun _=>0,fun _=>false⟩
theorem info_sup:(Tryz.prog.info? 76).map (·.size)=some 387:=by kernel_rfl
theorem info_i:(Tryz.prog.info? 73).map (·.size)=some 65:=by kernel_rfl
theorem info_int:(Tryz.prog.info? 3).map (·.size)=some 1:=by kernel_rfl
theorem info_cs (x:Sup):(Tryz.prog.info? 76).map (·.size)=some x.cs.length:=by rw [x.cs_len];exact info_sup
theorem zero_sup (w:World):(zeroValue 76).run Tryz.prog w=.ok (.agg sup0.cs.toArray) w:=by kernel_rfl
theorem built_sup0:Tryz.prog.built 76 []=some sup0.cs.toArray:=by kernel_rfl
def Sup.eqb (x y:Sup):Bool:=(x.s:Int)==(y.s:Int) && ((List.range 256).all (fun j=>x.u j==y.u j) && ((List.range 65).all (fun j=>x.i j==y.i j) && (List.range 65).all fun j=>x.o j==y.o j))
theorem Sup.eqb_iff (x y:Sup):x.eqb y=true↔x.s=y.s∧(∀ j,j<256→x.u j=y.u j)∧(∀ j,j<65→x.i j=y.i j)∧∀ j,j<65→x.o j=y.o j:=by
  unfold Sup.eqb;simp only [Bool.and_eq_true,List.all_eq_true,List.mem_range,beq_iff_eq];constructor
  · rintro ⟨h1,h2,h3,h4⟩;exact ⟨by omega,h2,h3,h4⟩
  · rintro ⟨h1,h2,h3,h4⟩;exact ⟨by omega,h2,h3,h4⟩
theorem Sup.cs_eq {x y:Sup} (h:x.eqb y=true):x.cs=y.cs:=by
  obtain ⟨h1,h2,h3,h4⟩:=(x.eqb_iff y).1 h;unfold Sup.cs bls inl;rw [h1];congr 1;congr 1
  · exact List.map_congr_left fun j hj=>by rw [h2 j (List.mem_range.1 hj)]
  · congr 1
    · exact List.map_congr_left fun j hj=>by rw [h3 j (List.mem_range.1 hj)]
    · exact List.map_congr_left fun j hj=>by rw [h4 j (List.mem_range.1 hj)]
theorem eq_inl (d n:Nat) (t:TypeId) (hu:Tryz.prog.underlying t=some (.array n 3)) (f g:Nat→Int) (w:World):(Op.equalIn (d+2) t (.agg (inl n f).toArray) (.agg (inl n g).toArray)).run Tryz.prog w=.ok ((List.range n).all fun j=>f j==g j) w:=
  run_equalIn_parts w (d+1) t 3 n 1 hu info_int _ _ (fun j=>.int .i64 (f j)) (fun j=>.int .i64 (g j)) (fun j=>f j==g j)
    (fun j hj w=>by
      have h:=inl_get f hj;simp [part,isAgg,run_underlying Tryz.underlying3,h])
    (fun j hj w=>by
      have h:=inl_get g hj;simp [part,isAgg,run_underlying Tryz.underlying3,h])
    (fun j hj w=>run_equalIn_int (P:=Tryz.prog) w d _ .i64 .i64 _ _ Tryz.underlying3)
/- Package grant:which slots and inodes are numbers of one,a slot taken,given. No conditions but those named. -/
theorem wp_min {P:Program} {w:World} {ops:Array Oper} {rest:List Oper} {o:Oper} {a:Act} {Q:Exit→Act→World→Prop} (hgd:o.guard=none) (s x:Operand) (ts:Array TypeId) (ho:o.op=.call { callee:=.builtin .min,args:=#[s,x],argTypes:=ts })
    (p q m:Int) (hs:a.eval s=.int .i64 p) (hx:a.eval x=.int .i64 q) (hm:(if q<p then q else p)=m) (h:wpList P ops Q rest (a.put o.dst (.int .i64 m)) w):wpList P ops Q (o::rest) a w:=by
  refine wpList_plain hgd fun K hK=>?_;subst hm;unfold Oper.wp execOp;simp only [ho,resolve,invoke,builtin,Sem.run_bind,Sem.run_pure,Zw,List.map_toArray,List.map_cons,List.map_nil,hs,hx,run_min_int2];exact hK _ _ h
theorem isslot_any (z:Int) (w:World):Calls Tryz.prog 134 #[.int .i64 z] w fun e w'=>e=.returned (.bool (decide (0≤z) && decide (z<256)))∧w=w':=by
  by_cases h0:0≤z
  · rw [decide_eq_true h0,Bool.true_and];go_enter Tryz.func134,Tryz.ntmps134;go_wp2;go_ret;exact ⟨rfl,rfl⟩
  · rw [decide_eq_false h0,Bool.false_and];go_enter Tryz.func134,Tryz.ntmps134;go_wp2;go_ret;exact ⟨rfl,rfl⟩
theorem below_own {w w1 w2:World} {g:Nat} (h:Below w.heap.size w w1) (hg:w1.grownBy w2 (some g)) (hq:w.heap.size≤g):Below w.heap.size w w2:=h.grown hg h.size (fun q e=>by injection e with e;subst e;exact hq)
theorem take_ok (x:Sup) (z:Int) (k:Nat) (hk:k<256) (hz:(k:Int)<z) (hu:x.u k=false) (hb:∀ j,j<k→x.u j=true) (w:World):Calls Tryz.prog 66 #[.agg x.cs.toArray,.int .i64 z] w fun e w'=>e=.returned (.tuple #[.agg (x.setU k true).cs.toArray,.int .i64 (k:Int),.int .i64 0])∧Below w.heap.size w w':=by
  obtain ⟨m,hm⟩:∃ m:Int,(if (256:Int)<z then 256 else z)=m:=⟨_,rfl⟩;have hkm:(k:Int)<m:=by rw [← hm];split <;> omega
  have HM:=Za hm;have HK:=Za hk;have HU:=Za hu;have HUB:=Za hb;have HKM:=Za hkm;have i1:=Za (fun x:Sup=>info_cs x);have hz0:=Za zero_sup;clear hm hk hz hu hb hkm;go_enter Tryz.func66,Tryz.ntmps66
  go_wp2_with (first
    | (refine step_box rfl 2 rfl 76 (.tmp 0) rfl x.cs rfl ?_;intro g2 w2 hr2 hg2 hb2 hs2;have R2:=Za hr2
       have HB2:=Za hb2;have Q2:=Za (p:=w.heap.size≤g2) (by rw [hg2.out];exact Zj _);clear hr2 hb2 hg2 hs2)
    | (refine step_alloc rfl 4 rfl 76 rfl _ hz0.out ?_;intro g4 w4 hr4 hg4 hb4 hs4;have R4:=Za hr4
       have R24:=Za (R2.out.kept hb4);have HB4:=Za (below_nxt hb4 HB2.out);have N24:=Za (p:=g2<g4) (by rw [hg4.out];exact R2.out.lt);clear hr4 hb4 hg4 hs4)
    | (refine wp_min rfl _ _ _ rfl _ _ m rfl rfl HM.out ?_))
  go_loopw [10] (fun y wr=>∃ j:Nat,j≤k∧y=.int .i64 (j:Int)∧Hid (Row wr g2 76 x.cs)∧Hid (Row wr g4 76 sup0.cs)∧Hid (Below w.heap.size w wr)) (fun y _=>256 - (intOf y).toNat)
  case atStart=>exact ⟨0,by omega,rfl,R24,R4,HB4⟩
  case round=>
    clear R24 R4 HB4 R2 HB2;obtain ⟨j,hj,rfl,HR2,HR4,HB⟩:=hrel;have hjm:(j:Int)<m:=by have:=HKM.out;omega
    have hj256:(j:Int)<256:=by have:=HK.out;omega
    have hw:IntKind.i64.wrap ((j:Int)+1)=(j:Int)+1:=by rw [Zg];omega
    by_cases e:j=k
    · subst e;have c1:wr.cell? ⟨g2,1+j,none⟩=some (.bool false):=by rw [HR2.out.cell,x.c_u HK.out,HU.out]
      have f1:=HR2.out.free (1+j);clear hj
      go_wp2_with (first
        | (refine step_load rfl 21 rfl 76 (.tmp 2) rfl g2 rfl (x.setU j true).cs _ (Row.all (by have h:=HR2.out.put (1+j) (.bool true);rw [x.set_u true HK.out] at h;exact h)) Yj rfl (i1.out _) ?_)
        | (refine step_store rfl 76 (.tmp 4) (.tmp 21) rfl g4 (by rfl) _ sup0.cs (x.setU j true).cs (by rfl) (HR4.out.far (p:=⟨g2,1+j,none⟩) (by have:=N24.out;intro e;simp at e;omega) _) (by rw [Sup.cs_len,Sup.cs_len]) (i1.out _) (Sup.cs_one _) ?_;intro w9 hr9 hg9 hs9))
      refine Yd (results_row_two rfl _ _ g4 _ _ _ _ rfl hr9 Yj rfl (by simpa using i1.out _)) rfl ?_;exact ⟨rfl,below_own (HB.out.setCell Q2.out _) hg9 (by have:=N24.out;have:=Q2.out;omega)⟩
    · have hjk:j<k:=by omega
      have c1:wr.cell? ⟨g2,1+j,none⟩=some (.bool true):=by rw [HR2.out.cell,x.c_u (by omega),HUB.out j hjk]
      have HJ:=Za hjk;clear hj e hjk;go_wp2;go_roundw
      case rel=>exact ⟨j+1,by have:=HJ.out;omega,by go_num,HR2,HR4,HB⟩
      case measure=>simp [intOf];omega
/- Package grant:a slot given,a new super,what is counted,the least inode that there isn't,an inode more. No conditions but those named. -/
def Sup.give (x:Sup) (z:Int):Sup:=if 1≤z∧z<256 then x.setU z.toNat false else x
theorem give_any (x:Sup) (z:Int) (w:World):Calls Tryz.prog 118 #[.agg x.cs.toArray,.int .i64 z] w fun e w'=>e=.returned (.agg (x.give z).cs.toArray)∧Below w.heap.size w w':=by
  have i1:=Za (fun x:Sup=>info_cs x);have hz0:=Za zero_sup;by_cases h:1≤z∧z<256
  · obtain ⟨k,rfl⟩:∃ k:Nat,z=(k:Int):=⟨z.toNat,by omega⟩;have hgv:x.give (k:Int)=x.setU k false:=by unfold Sup.give;rw [if_pos h,Yf]
    rw [hgv];have hk:k<256:=by omega
    have hne:((k:Int) !=0)=true:=by simp;omega
    have hge:(decide ((0:Int)≤(k:Int)) && decide ((k:Int)<256))=true:=by simp;omega
    have HS:=Za (fun w=>isslot_any (k:Int) w);rw [hge] at HS;have HK:=Za hk;have hki:(k:Int)<256:=by omega
    clear hgv h hge hk;go_enter Tryz.func118,Tryz.ntmps118
    go_wp2_with (first
      | (refine step_box rfl 2 rfl 76 (.tmp 0) rfl x.cs rfl ?_;intro g2 w2 hr2 hg2 hb2 hs2;have R2:=Za hr2
         have HB2:=Za hb2;have Q2:=Za (p:=w.heap.size≤g2) (by rw [hg2.out];exact Zj _);clear hr2 hb2 hg2 hs2)
      | (refine step_alloc rfl 4 rfl 76 rfl _ hz0.out ?_;intro g4 w4 hr4 hg4 hb4 hs4;have R4:=Za hr4
         have R24:=Za (R2.out.kept hb4);have HB4:=Za (below_nxt hb4 HB2.out);have N24:=Za (p:=g2<g4) (by rw [hg4.out];exact R2.out.lt);clear hr4 hb4 hg4 hs4)
      | (go_at_call 134;refine (HS.out _).mono ?_;rintro e w' ⟨rfl,rfl⟩;have f1:=R24.out.free (1+k)
         have c1:w4.cell? ⟨g2,1+k,none⟩=some (.bool (x.u k)):=by rw [R24.out.cell,x.c_u HK.out])
      | (refine step_load rfl 14 rfl 76 (.tmp 2) rfl g2 rfl (x.setU k false).cs _ (Row.all (by have h:=R24.out.put (1+k) (.bool false);rw [x.set_u false HK.out] at h;exact h)) Yj rfl (i1.out _) ?_)
      | (refine step_store rfl 76 (.tmp 4) (.tmp 14) rfl g4 (by rfl) _ sup0.cs (x.setU k false).cs (by rfl) (R4.out.far (p:=⟨g2,1+k,none⟩) (by have:=N24.out;intro e;simp at e;omega) _) (by rw [Sup.cs_len,Sup.cs_len]) (i1.out _) (Sup.cs_one _) ?_;intro w9 hr9 hg9 hs9))
    refine Yd (results_cell_row rfl _ _ g4 _ _ _ _ rfl hr9 Yj rfl (by simpa using i1.out _)) rfl ?_;exact ⟨rfl,below_own (HB4.out.setCell Q2.out _) hg9 (by have:=N24.out;have:=Q2.out;omega)⟩
  · have hgv:x.give z=x:=by unfold Sup.give;rw [if_neg h]
    rw [hgv];by_cases h0:z=0
    · subst h0;clear h hgv;go_enter Tryz.func118,Tryz.ntmps118
      go_wp2_with (first
        | (refine step_box rfl 2 rfl 76 (.tmp 0) rfl x.cs rfl ?_;intro g2 w2 hr2 hg2 hb2 hs2;have R2:=Za hr2
           have HB2:=Za hb2;have Q2:=Za (p:=w.heap.size≤g2) (by rw [hg2.out];exact Zj _);clear hr2 hb2 hg2 hs2)
        | (refine step_alloc rfl 4 rfl 76 rfl _ hz0.out ?_;intro g4 w4 hr4 hg4 hb4 hs4;have R4:=Za hr4
           have R24:=Za (R2.out.kept hb4);have HB4:=Za (below_nxt hb4 HB2.out);have N24:=Za (p:=g2<g4) (by rw [hg4.out];exact R2.out.lt);clear hr4 hb4 hg4 hs4)
        | (refine step_load rfl 14 rfl 76 (.tmp 2) rfl g2 rfl x.cs _ R24.out.all Yj rfl (i1.out _) ?_)
        | (refine step_store rfl 76 (.tmp 4) (.tmp 14) rfl g4 (by rfl) _ sup0.cs x.cs (by rfl) R4.out (by rw [Sup.cs_len,Sup.cs_len]) (i1.out _) (Sup.cs_one _) ?_;intro w9 hr9 hg9 hs9))
      refine Yd (results_cell_row rfl _ _ g4 _ _ _ _ rfl hr9 Yj rfl (by simpa using i1.out _)) rfl ?_;exact ⟨rfl,below_own HB4.out hg9 (by have:=N24.out;have:=Q2.out;omega)⟩
    · have hne:(z !=0)=true:=by simpa using h0
      have hge:(decide ((0:Int)≤z) && decide (z<256))=false:=by
        rw [Bool.and_eq_false_iff];simp only [decide_eq_false_iff_not];omega
      have HS:=Za (fun w=>isslot_any z w);rw [hge] at HS;clear h hgv hge h0;go_enter Tryz.func118,Tryz.ntmps118
      go_wp2_with (first
        | (refine step_box rfl 2 rfl 76 (.tmp 0) rfl x.cs rfl ?_;intro g2 w2 hr2 hg2 hb2 hs2;have R2:=Za hr2
           have HB2:=Za hb2;have Q2:=Za (p:=w.heap.size≤g2) (by rw [hg2.out];exact Zj _);clear hr2 hb2 hg2 hs2)
        | (refine step_alloc rfl 4 rfl 76 rfl _ hz0.out ?_;intro g4 w4 hr4 hg4 hb4 hs4;have R4:=Za hr4
           have R24:=Za (R2.out.kept hb4);have HB4:=Za (below_nxt hb4 HB2.out);have N24:=Za (p:=g2<g4) (by rw [hg4.out];exact R2.out.lt);clear hr4 hb4 hg4 hs4)
        | (go_at_call 134;refine (HS.out _).mono ?_;rintro e w' ⟨rfl,rfl⟩)
        | (refine step_load rfl 14 rfl 76 (.tmp 2) rfl g2 rfl x.cs _ R24.out.all Yj rfl (i1.out _) ?_)
        | (refine step_store rfl 76 (.tmp 4) (.tmp 14) rfl g4 (by rfl) _ sup0.cs x.cs (by rfl) R4.out (by rw [Sup.cs_len,Sup.cs_len]) (i1.out _) (Sup.cs_one _) ?_;intro w9 hr9 hg9 hs9))
      refine Yd (results_cell_row rfl _ _ g4 _ _ _ _ rfl hr9 Yj rfl (by simpa using i1.out _)) rfl ?_;exact ⟨rfl,below_own HB4.out hg9 (by have:=N24.out;have:=Q2.out;omega)⟩
def cb (f:Nat→Bool):Nat→Nat
  | 0=>0
  | n+1=>cb f n+if f n then 1 else 0
def Sup.has (x:Sup) (j:Nat):Bool:=x.i (j+1) !=0
theorem spare_ok (x:Sup) (k:Nat) (hk:k<64) (h0:x.i (k+1)=0) (hb:∀ j,j<k→x.i (j+1)≠0) (w:World):Calls Tryz.prog 65 #[.agg x.cs.toArray] w fun e w'=>e=.returned (.tuple #[.int .i64 ((k+1:Nat):Int),.bool true])∧Below w.heap.size w w':=by
  have HK:=Za hk;have H0:=Za h0;have HNB:=Za hb;clear hk h0 hb;go_enter Tryz.func65,Tryz.ntmps65
  go_wp2_with (refine step_box rfl 1 rfl 76 (.tmp 0) rfl x.cs rfl ?_;intro g2 w2 hr2 hg2 hb2 hs2;have R2:=Za hr2
               have HB2:=Za hb2;have Q2:=Za (p:=w.heap.size≤g2) (by rw [hg2.out];exact Zj _);clear hr2 hb2 hg2 hs2)
  go_loopw [9] (fun y wr=>∃ j:Nat,j≤k∧y=.int .i64 (j:Int)∧Hid (Row wr g2 76 x.cs)∧Hid (Below w.heap.size w wr)) (fun y _=>64 - (intOf y).toNat)
  case atStart=>exact ⟨0,by omega,rfl,R2,HB2⟩
  case round=>
    clear R2 HB2;obtain ⟨j,hj,rfl,HR2,HB⟩:=hrel;have hji:(j:Int)<64:=by have:=HK.out;omega
    have hw:IntKind.i64.wrap ((j:Int)+1)=(j:Int)+1:=by rw [Zg];omega
    obtain ⟨v,hv⟩:∃ v,x.i (j+1)=v:=⟨_,rfl⟩;have c1:wr.cell? ⟨g2,258+j,none⟩=some (.int .i64 v):=by rw [HR2.out.cell,show 258+j=257+(j+1) by omega,x.c_i (by omega),hv]
    by_cases e:j=k
    · subst e;have hv0:v=0:=by rw [← hv];exact H0.out
      subst hv0;clear hj hv;go_wp2;go_ret2;exact ⟨by go_num,HB.out⟩
    · have hjk:j<k:=by omega
      have hv0:(v==0)=false:=by rw [← hv];simpa using HNB.out j hjk
      have HJ:=Za hjk;clear hj e hjk hv;go_wp2;go_roundw
      case rel=>exact ⟨j+1,by have:=HJ.out;omega,by go_num,HR2,HB⟩
      case measure=>simp [intOf];omega
/- Package grant:whether a super may be. No conditions. -/
def Sup.OkA (x:Sup) (j:Nat):Prop:=if x.i j=0 then x.o j=false else (0≤x.i j∧x.i j<256∧x.u (x.i j).toNat=true∧∀ k,k<j→x.i k≠x.i j)
def Sup.May (x:Sup):Prop:=x.s≠0∧x.u 0=true∧x.i 0=0∧∀ j,j<65→x.OkA j
def Sup.had (x:Sup):Nat→Nat→Bool
  | 0=>fun _=>false
  | j+1=>if x.i j=0 then x.had j else at1 (x.had j) (x.i j).toNat true
theorem Sup.had_iff (x:Sup):∀ j,(∀ k,k<j→x.OkA k)→∀ s:Nat,s≠0→(x.had j s=true↔∃ k,k<j∧x.i k=(s:Int)):=by
  intro j
  induction j with
  | zero=>intro _ s _;exact Iff.intro (fun h=>by cases h) (fun h=>by obtain ⟨k,hk,_⟩:=h;omega)
  | succ j ih=>
    intro hok s hs;have ih:=ih (fun k hk=>hok k (by omega)) s hs;have hj:=hok j (by omega);unfold Sup.OkA at hj;show (if x.i j=0 then x.had j else at1 (x.had j) (x.i j).toNat true) s=true↔_;by_cases h0:x.i j=0
    · rw [if_pos h0,ih];constructor
      · rintro ⟨k,hk,e⟩;exact ⟨k,by omega,e⟩
      · rintro ⟨k,hk,e⟩;refine ⟨k,?_,e⟩;rcases Nat.lt_or_ge k j with h | h
        · exact h
        · obtain rfl:k=j:=by omega
          omega
    · rw [if_neg h0] at hj;rw [if_neg h0];by_cases e:s=(x.i j).toNat
      · subst e;rw [at1_same];exact ⟨fun _=>⟨j,by omega,by omega⟩,fun _=>rfl⟩
      · rw [at1_other _ _ e,ih];constructor
        · rintro ⟨k,hk,e⟩;exact ⟨k,by omega,e⟩
        · rintro ⟨k,hk,e2⟩;refine ⟨k,?_,e2⟩;rcases Nat.lt_or_ge k j with h | h
          · exact h
          · obtain rfl:k=j:=by omega
            omega
theorem zero_had (w:World):(zeroValue 72).run Tryz.prog w=.ok (.agg (bls 256 fun _=>false).toArray) w:=by kernel_rfl
theorem set_bls (f:Nat→Bool) {n j:Nat} (b:Bool) (h:j<n):(bls n f).set j (.bool b)=bls n (at1 f j b):=by
  apply List.ext_getElem?;intro k;rw [List.getElem?_set,bls_len];by_cases hk:j=k
  · subst hk;rw [if_pos rfl,if_pos h,bls_get _ h,at1_same]
  · rw [if_neg hk];by_cases h2:k<n
    · rw [bls_get _ h2,bls_get _ h2,at1_other _ _ (by omega)]
    · rw [List.getElem?_eq_none (by rw [bls_len];omega),List.getElem?_eq_none (by rw [bls_len];omega)]
theorem run_index_inl (f:Nat→Int) (k:Nat) (hk:k<65) (w:World):(Instr.index 73 (.agg (inl 65 f).toArray) (.int .i64 k)).run Tryz.prog w=.ok (.int .i64 (f k)) w:=by
  have hg:=inl_get f hk;have hs:=info_int
  cases hq:Tryz.prog.info? 3 with
  | none=>simp [hq] at hs
  | some i=>
    have hi:i.size=1:=by simpa [hq] using hs
    simp [Instr.index,asIntOf,run_underlying Tryz.underlying73,run_underlying Tryz.underlying3,sizeOf,typeInfo,hq,hi,hk,Go.part,isAgg,hg]
theorem Sup.i_range {w:World} {g:Nat} {t:TypeId} {x:Sup} (h:Row w g t x.cs):w.rangeAt g 257 (inl 65 x.i):=by
  intro j v hv;obtain ⟨hj,_⟩:=Zn.1 hv;rw [inl_len] at hj;rw [h.cell,x.c_i hj, ← inl_get x.i hj];exact hv
theorem apart_gen (x:Sup) (b:Bool) (n:Nat) (hn:n≤65) (hok:∀ j,j<n→x.OkA j) (hb:(b=true∧n=65)∨(b=false∧n<65∧¬ x.OkA n)) (w:World):Calls Tryz.prog 143 #[.agg x.cs.toArray] w fun e w'=>e=.returned (.bool b)∧Below w.heap.size w w':=by
  have HN:=Za hn;have HOK:=Za hok;have HBB:=Za hb;obtain ⟨L,hL⟩:∃ L,inl 65 x.i=L:=⟨_,rfl⟩;have HLL:=Za (p:=(Tryz.prog.info? 73).map (·.size)=some L.length) (by rw [← hL,inl_len];exact info_i);have HLR:=Za (p:=∀ (w:World) (g:Nat),Row w g 76 x.cs→w.rangeAt g 257 L) (fun w g h=>by rw [← hL];exact Sup.i_range h);have HIX:=Za (p:=∀ (k:Nat) (v:Int),k<65→x.i k=v→∀ w,(Instr.index 73 (.agg L.toArray) (.int .i64 k)).run Tryz.prog w=.ok (.int .i64 v) w) (fun k v hk hv w=>by rw [← hL, ← hv];exact run_index_inl x.i k hk w);have HZH:=Za zero_had;clear hn hok hb hL;go_enter Tryz.func143,Tryz.ntmps143
  go_wp2_with (first
    | (refine step_box rfl 1 rfl 76 (.tmp 0) rfl x.cs rfl ?_;intro g2 w2 hr2 hg2 hb2 hs2;have R2:=Za hr2
       have HB2:=Za hb2;have Q2:=Za (p:=w.heap.size≤g2) (by rw [hg2.out];exact Zj _);clear hr2 hb2 hg2 hs2)
    | (refine step_alloc rfl 3 rfl 72 rfl _ HZH.out ?_;intro g3 w3 hr3 hg3 hb3 hs3;have R3:=Za hr3
       have R23:=Za (R2.out.kept hb3);have HB3:=Za (below_nxt hb3 HB2.out);have N23:=Za (p:=g2<g3) (by rw [hg3.out];exact R2.out.lt);clear hr3 hb3 hg3 hs3)
    | (refine wpList_load_mid rfl 73 (.tmp 6) rfl g2 257 (by rfl) L _ (HLR.out _ _ R23.out) Tryz.underlying73 rfl HLL.out ?_))
  go_loopw [8] (fun y wr=>∃ j:Nat,j≤n∧y=.int .i64 (j:Int)∧Hid (Row wr g2 76 x.cs)∧Hid (Row wr g3 72 (bls 256 (x.had j)))∧Hid (Below w.heap.size w wr)) (fun y _=>65 - (intOf y).toNat)
  case atStart=>exact ⟨0,by omega,rfl,R23,R3,HB3⟩
  case round =>
    clear R2 HB2 R23 R3 HB3;obtain ⟨j,hj,rfl,HR2,HR3,HB⟩:=hrel;have HJ:=Za hj;by_cases hj65:j<65
    · have hji : (j:Int)<65:=by omega
      have hw:IntKind.i64.wrap ((j:Int)+1)=(j:Int)+1:=by rw [Zg];omega
      obtain ⟨v,hv⟩:∃ v,x.i j=v:=⟨_,rfl⟩;have hix:=HIX.out j v hj65 hv;have HV:=Za hv;have H65:=Za hj65;have HSL:=Za (fun w=>isslot_any v w);obtain ⟨ob,hob⟩:∃ ob,x.o j=ob:=⟨_,rfl⟩;have c3:wr.cell? ⟨g2,322+j,none⟩=some (.bool ob):=by rw [HR2.out.cell,x.c_o hj65,hob]
      have hnext:Hid (x.OkA j→j+1≤n):=Za fun h=>by
        rcases HBB.out with ⟨_,e⟩ | ⟨_,e,e2⟩
        · omega
        · rcases Nat.lt_or_ge j n with h' | h'
          · omega
          · obtain rfl:j=n:=by omega
            exact absurd h e2
      have hbad:Hid (¬ x.OkA j→b=false):=Za fun h=>by
        rcases HBB.out with ⟨_,e⟩ | ⟨e,_,_⟩
        · exact absurd (HOK.out j (by omega)) h
        · exact e
      clear hj hj65 hv;by_cases h0:v=0
      · subst h0;have hhad:Hid (x.had (j+1)=x.had j):=Za (by show (if x.i j=0 then _ else _)=_;rw [if_pos HV.out]);cases ob
        · have hokj:=hnext.out (by unfold Sup.OkA;rw [if_pos HV.out];exact hob);clear hob;go_wp2;go_roundw
          case rel=>exact ⟨j+1,hokj,by go_num,HR2,by rw [hhad.out];exact HR3,HB⟩
          case measure=>have:=H65.out;simp [intOf];omega
        · have hbf:=hbad.out (by unfold Sup.OkA;rw [if_pos HV.out,hob];decide);subst hbf;clear hob;go_wp2;go_ret;exact ⟨rfl,HB.out⟩
      · have h0b :(v==0)=false:=by simpa using h0
        clear c3;by_cases hr:0≤v∧v<256
        · obtain ⟨m,rfl⟩:∃ m:Nat,v=(m:Int):=⟨v.toNat,by omega⟩;have hm:m<256:=by omega
          have hm0:m≠0:=by omega
          have hmi:(m:Int)<256:=by omega
          have hge:(decide ((0:Int)≤(m:Int)) && decide ((m:Int)<256))=true:=by simp;omega
          rw [hge] at HSL;have HM:=Za hm;have HIFF:=Za (x.had_iff j (fun k hk=>HOK.out k (by have:=HJ.out;omega)) m hm0);obtain ⟨ub,hub⟩:∃ ub,x.u m=ub:=⟨_,rfl⟩;have c1:wr.cell? ⟨g2,1+m,none⟩=some (.bool ub):=by rw [HR2.out.cell,x.c_u hm,hub]
          have HNZ:=Za (p:=x.i j≠0) (by rw [HV.out];exact h0);clear hge hm hr hob h0;cases ub
          · have hbf:=hbad.out (by
              unfold Sup.OkA;rw [if_neg HNZ.out,HV.out];rintro ⟨_,_,h,_⟩;rw [Yf,hub] at h;cases h)
            subst hbf;clear hub hm0;go_wp2_with (go_at_call 134;refine (HSL.out _).mono ?_;rintro e w' ⟨rfl,rfl⟩);go_ret;exact ⟨rfl,HB.out⟩
          · obtain ⟨hd,hhd⟩:∃ hd,x.had j m=hd:=⟨_,rfl⟩;have c2:wr.cell? ⟨g3,m,none⟩=some (.bool hd):=by rw [HR3.out.cell,bls_get _ HM.out,hhd]
            cases hd
            · have hok:x.OkA j:=by
                unfold Sup.OkA;rw [if_neg HNZ.out,HV.out];refine ⟨by omega,hmi,by rw [Yf];exact hub,fun k hk e=>?_⟩;have h:=HIFF.out.2 ⟨k,hk,e⟩;rw [hhd] at h;cases h
              have hokj:=hnext.out hok;have hhad:Hid (x.had (j+1)=at1 (x.had j) m true):=Za (by show (if x.i j=0 then _ else _)=_;rw [if_neg HNZ.out,HV.out,Yf]);have f2:=HR3.out.free m;clear hub hhd hm0 hok;go_wp2_with (go_at_call 134;refine (HSL.out _).mono ?_;rintro e w' ⟨rfl,rfl⟩);go_roundw
              case rel=>exact ⟨j+1,hokj,by go_num,Za (HR2.out.far (p:=⟨g3,m,none⟩) (by have:=N23.out;intro e;simp at e;omega) _),Za (by rw [hhad.out, ← set_bls _ _ HM.out];exact HR3.out.put _ _),Za (HB.out.setCell (show w.heap.size≤g3 by have:=N23.out;have:=Q2.out;omega) _)⟩
              case measure=>have:=H65.out;simp [intOf];omega
            · have hbf:=hbad.out (by
                unfold Sup.OkA;rw [if_neg HNZ.out,HV.out];rintro ⟨_,_,_,h⟩;obtain ⟨k,hk,e⟩:=HIFF.out.1 hhd;exact h k hk e)
              subst hbf;clear hub hhd hm0;go_wp2_with (go_at_call 134;refine (HSL.out _).mono ?_;rintro e w' ⟨rfl,rfl⟩);go_ret;exact ⟨rfl,HB.out⟩
        · have hge:(decide ((0:Int)≤v) && decide (v<256))=false:=by
            rw [Bool.and_eq_false_iff];simp only [decide_eq_false_iff_not];omega
          rw [hge] at HSL
          have hbf:=hbad.out (by
            unfold Sup.OkA;rw [HV.out,if_neg h0];rintro ⟨h1,h2,_⟩;exact hr ⟨h1,h2⟩)
          subst hbf;clear hge hr hob h0;go_wp2_with (go_at_call 134;refine (HSL.out _).mono ?_;rintro e w' ⟨rfl,rfl⟩);go_ret;exact ⟨rfl,HB.out⟩
    · have hj65':j=65:=by have:=HN.out;omega
      have hbt:b=true:=by
        rcases HBB.out with ⟨e,_⟩ | ⟨_,e,_⟩
        · exact e
        · omega
      subst hj65' hbt;clear hj hj65;go_wp2;go_ret;exact ⟨rfl,HB.out⟩
theorem least_bad (p:Nat→Prop) (N:Nat):(∀ j,j<N→p j)∨∃ n,n<N∧¬ p n∧∀ j,j<n→p j:=by
  induction N with
  | zero=>exact .inl fun j hj=>by omega
  | succ N ih=>
    rcases ih with h | ⟨n,h1,h2,h3⟩
    · by_cases hp:p N
      · exact .inl fun j hj=>by
          rcases Nat.lt_or_ge j N with h' | h'
          · exact h j h'
          · obtain rfl:j=N:=by omega
            exact hp
      · exact .inr ⟨N,by omega,hp,h⟩
    · exact .inr ⟨n,by omega,h2,h3⟩
theorem apart_ok (x:Sup) (h:∀ j,j<65→x.OkA j) (w:World):Calls Tryz.prog 143 #[.agg x.cs.toArray] w fun e w'=>e=.returned (.bool true)∧Below w.heap.size w w':=apart_gen x true 65 (Zj _) h (.inl ⟨rfl,rfl⟩) w
theorem apart_no (x:Sup) (h:¬ ∀ j,j<65→x.OkA j) (w:World):Calls Tryz.prog 143 #[.agg x.cs.toArray] w fun e w'=>e=.returned (.bool false)∧Below w.heap.size w w':=by
  rcases least_bad x.OkA 65 with h' | ⟨n,h1,h2,h3⟩
  · exact absurd h' h
  · exact apart_gen x false n (by omega) h3 (.inr ⟨rfl,h1,h2⟩) w
theorem maybe_any (x:Sup) (b:Bool) (hb:b=true↔x.May) (w:World):Calls Tryz.prog 129 #[.agg x.cs.toArray] w fun e w'=>e=.returned (.bool b)∧Below w.heap.size w w':=by
  have i1:=Za (fun x:Sup=>info_cs x);obtain ⟨s,hs⟩:∃ s,x.s=s:=⟨_,rfl⟩;obtain ⟨u,hu⟩:∃ u,x.u 0=u:=⟨_,rfl⟩;obtain ⟨v,hv⟩:∃ v,x.i 0=v:=⟨_,rfl⟩;have C0:=Za (p:=∀ (w:World) (g:Nat),Row w g 76 x.cs→w.cell? ⟨g,0,none⟩=some (.int .u64 (s:Int))∧w.cell? ⟨g,1,none⟩=some (.bool u)∧w.cell? ⟨g,257,none⟩=some (.int .i64 v)) (fun w g h=>⟨by rw [h.cell,x.c_s,hs],by rw [h.cell,show 1=1+0 from rfl,x.c_u (by decide),hu],by rw [h.cell,show 257=257+0 from rfl,x.c_i (by decide),hv]⟩);have HBB:=Za hb;have HSS:=Za hs;have HUU:=Za hu;have HVV:=Za hv;clear hb hs hu hv;by_cases hs0:s=0
  · obtain rfl:b=false:=by
      cases b
      · rfl
      · exact absurd (HSS.out.trans hs0) (HBB.out.1 rfl).1
    subst hs0;go_enter Tryz.func129,Tryz.ntmps129
    go_wp2_with (first
      | go_skip
      | go_big_skip
      | (refine step_box rfl 1 rfl 76 (.tmp 0) rfl x.cs rfl ?_;intro g2 w2 hr2 hg2 hb2 hs2;obtain ⟨c0,c1,c2⟩:=C0.out _ _ hr2
         have R2:=Za hr2;have HB2:=Za hb2;have Q2:=Za (p:=w.heap.size≤g2) (by rw [hg2.out];exact Zj _);clear hr2 hb2 hg2 hs2))
    go_ret;exact ⟨rfl,HB2.out⟩
  · have hs0' : ((s:Int) !=0)=true:=by simp;omega
    cases u
    · obtain rfl:b=false:=by
        cases b
        · rfl
        · have:=(HBB.out.1 rfl).2.1;rw [HUU.out] at this;cases this
      clear hs0;go_enter Tryz.func129,Tryz.ntmps129
      go_wp2_with (first
        | go_skip
        | go_big_skip
        | (refine step_box rfl 1 rfl 76 (.tmp 0) rfl x.cs rfl ?_;intro g2 w2 hr2 hg2 hb2 hs2;obtain ⟨c0,c1,c2⟩:=C0.out _ _ hr2
           have R2:=Za hr2;have HB2:=Za hb2;have Q2:=Za (p:=w.heap.size≤g2) (by rw [hg2.out];exact Zj _);clear hr2 hb2 hg2 hs2))
      go_ret;exact ⟨rfl,HB2.out⟩
    · by_cases hv0:v=0
      · subst hv0;by_cases ha:∀ j,j<65→x.OkA j
        · obtain rfl:b=true:=HBB.out.2 ⟨by rw [HSS.out];exact hs0,HUU.out,HVV.out,ha⟩;have HAP:=Za (fun w=>apart_ok x ha w);clear hs0 ha;go_enter Tryz.func129,Tryz.ntmps129
          go_wp2_with (first
            | go_skip
            | go_big_skip
            | (refine step_box rfl 1 rfl 76 (.tmp 0) rfl x.cs rfl ?_;intro g2 w2 hr2 hg2 hb2 hs2;obtain ⟨c0,c1,c2⟩:=C0.out _ _ hr2
               have R2:=Za hr2;have HB2:=Za hb2;have Q2:=Za (p:=w.heap.size≤g2) (by rw [hg2.out];exact Zj _);clear hr2 hb2 hg2 hs2)
            | (refine step_load_g (by rfl) 18 rfl 76 (.tmp 1) rfl g2 rfl x.cs _ R2.out.all Yj rfl (i1.out _) ?_)
            | (go_at_call 143;refine (HAP.out _).mono ?_;rintro e w5 ⟨rfl,hb5⟩;have HB5:=Za (below_nxt hb5 HB2.out)
               clear hb5))
          go_ret;exact ⟨rfl,HB5.out⟩
        · obtain rfl:b=false:=by
            cases b
            · rfl
            · exact absurd (HBB.out.1 rfl).2.2.2 ha
          have HAP:=Za (fun w=>apart_no x ha w);clear hs0 ha;go_enter Tryz.func129,Tryz.ntmps129
          go_wp2_with (first
            | go_skip
            | go_big_skip
            | (refine step_box rfl 1 rfl 76 (.tmp 0) rfl x.cs rfl ?_;intro g2 w2 hr2 hg2 hb2 hs2;obtain ⟨c0,c1,c2⟩:=C0.out _ _ hr2
               have R2:=Za hr2;have HB2:=Za hb2;have Q2:=Za (p:=w.heap.size≤g2) (by rw [hg2.out];exact Zj _);clear hr2 hb2 hg2 hs2)
            | (refine step_load_g (by rfl) 18 rfl 76 (.tmp 1) rfl g2 rfl x.cs _ R2.out.all Yj rfl (i1.out _) ?_)
            | (go_at_call 143;refine (HAP.out _).mono ?_;rintro e w5 ⟨rfl,hb5⟩;have HB5:=Za (below_nxt hb5 HB2.out)
               clear hb5))
          go_ret;exact ⟨rfl,HB5.out⟩
      · obtain rfl:b=false:=by
          cases b
          · rfl
          · exact absurd (HVV.out.symm.trans (HBB.out.1 rfl).2.2.1) hv0
        have hv0':(v==0)=false:=by simpa using hv0
        clear hs0 hv0;go_enter Tryz.func129,Tryz.ntmps129
        go_wp2_with (first
          | go_skip
          | go_big_skip
          | (refine step_box rfl 1 rfl 76 (.tmp 0) rfl x.cs rfl ?_;intro g2 w2 hr2 hg2 hb2 hs2;obtain ⟨c0,c1,c2⟩:=C0.out _ _ hr2
             have R2:=Za hr2;have HB2:=Za hb2;have Q2:=Za (p:=w.heap.size≤g2) (by rw [hg2.out];exact Zj _);clear hr2 hb2 hg2 hs2))
        go_ret;exact ⟨rfl,HB2.out⟩
/- Numbers put behind bytes by package wire:what each call leaves,for every argument (bytes of at most 2^45). No other conditions. -/
theorem info5:(Tryz.prog.info? 5).map (fun i=>(i.zero,i.size,i.bytes))=some (some (.int .u8 0),1,1):=by kernel_rfl
theorem u8_table:∃ i,U8 Tryz.prog 23 5 i:=by
  obtain ⟨i,hi,hz,h1,h2⟩:=info_parts info5;exact ⟨i,Tryz.underlying23,hi,hz,h1,h2⟩
theorem width_any (n:Int) (w:World):Calls Tryz.prog 111 #[.int .i64 n] w fun e w'=>e=.returned (.int .i64 (wid n:Nat))∧w=w':=by
  by_cases h8:n=8
  · subst h8;go_enter Tryz.func111,Tryz.ntmps111;go_wp2;go_ret;exact ⟨rfl,rfl⟩
  by_cases h4:n=4
  · subst h4;go_enter Tryz.func111,Tryz.ntmps111;go_wp2;go_ret;exact ⟨rfl,rfl⟩
  by_cases h2:n=2
  · subst h2;go_enter Tryz.func111,Tryz.ntmps111;go_wp2;go_ret;exact ⟨rfl,rfl⟩
  by_cases h1:n=1
  · subst h1;go_enter Tryz.func111,Tryz.ntmps111;go_wp2;go_ret;exact ⟨rfl,rfl⟩
  have e8:(n==8)=false:=by simp [h8]
  have e4:(n==4)=false:=by simp [h4]
  have e2:(n==2)=false:=by simp [h2]
  have e1:(n==1)=false:=by simp [h1]
  have hw:wid n=0:=by simp [wid,h8,h4,h2,h1]
  rw [hw];clear h8 h4 h2 h1 hw;go_enter Tryz.func111,Tryz.ntmps111;go_wp2;go_ret;exact ⟨rfl,rfl⟩
theorem room_any (A:Option Addr) (c:Nat) (l:List UInt8) (more:Nat) (w:World) (hA:Hol w A l) (hb:l.length+more≤70368744177664):
    Calls Tryz.prog 110 #[.slice A l.length c,.int .i64 more] w fun e w'=>∃ v,e=.returned v∧w'.ownsRow w.heap.size 5 1 v l.length (bc l)∧Below w.heap.size w w':=by
  obtain ⟨i,U⟩:=u8_table;go_enter Tryz.func110,Tryz.ntmps110
  go_wp2_with (first
    | (refine wpList_make_own _ rfl _ _ 23 rfl w.heap.size 5 i (.int .u8 0) 1 U.ht U.hi U.hz U.h1 .i64 .i64 _ (l.length+more) rfl rfl (by omega) (by rw [U.h2];omega) (by unfold maxLen;omega) (Zj _) ?_;intro w1 hown1 hg1)
    | (at_builtin
       refine wpList_app _ rfl _ _ _ rfl 5 i U w.heap.size _ 0 [] rfl hown1 A l.length c l rfl rfl (hA.below (below_of_grown hg1)) (by omega) hg1.size ?_;intro v2 w2 hown2 hg2 hat2))
  go_ret;refine ⟨v2,rfl,by simpa using hown2,(below_of_grown hg1).grown hg2 hg1.size (fun k hk=>(hown1.lt k hk).1)⟩
theorem hol_one (w:World) (e:TypeId) (x:UInt8) (z:Int) (hz:z=(x.toNat:Int)):Hol (w.alloc (.cells #[.int .u8 z] e)) (some ⟨w.heap.size,0,none⟩) [x]:=by
  subst hz;refine .inr ⟨w.heap.size,0,rfl,fun j y hy=>?_⟩
  match j,hy with
  | 0,hy=>
    simp at hy;subst hy;simp
theorem byte_shr (x k:Nat):(x:Int) / 2 ^ (8*k) % 256=((UInt8.ofNat (x / 256 ^ k)).toNat:Int):=by
  have e:(UInt8.ofNat (x / 256 ^ k)).toNat=x / 256 ^ k % 256:=UInt8.toNat_ofNat' ..
  have e2:(2:Int) ^ (8*k)=((256 ^ k:Nat):Int):=by
    rw [Int.pow_mul];simp
  rw [e,e2];omega
theorem number_any (B:Nat) (v:Value) (n:Nat) (l:List UInt8) (size:Nat) (x:Nat) (w:World) (hown:w.ownsRow B 5 1 v n (bc l)) (hs:size≤8) (hx:x<18446744073709551616)
    (hn:n≤70368744177664) (hB:B≤w.heap.size):
    Calls Tryz.prog 132 #[v,.int .i64 size,.int .u64 x] w fun e w'=>∃ v',e=.returned v'∧w'.ownsRow B 5 1 v' (n+size) (bc (l++leb x size))∧Below B w w':=by
  obtain ⟨i,U⟩:=u8_table;go_enter Tryz.func132,Tryz.ntmps132;go_wp2;go_loopw [0,9] (fun s i wr=>∃ k:Nat,k≤size∧i=.int .i64 k∧wr.ownsRow B 5 1 s (n+k) (bc (l++leb x k))∧Below B w wr) (fun _ i _=>size - (intOf i).toNat)
  case atStart=>exact ⟨0,Nat.zero_le _,rfl,by simpa [leb] using hown,Below.refl _ _⟩
  case round=>
    obtain ⟨k,hk,rfl,hown1,hb1⟩:=hrel;by_cases hlt:k<size
    · go_wp2_with (at_builtin;refine wpList_app _ rfl _ _ _ rfl 5 i U B _ (n+k) _ rfl (hown1.alloc _) (some ⟨wr.heap.size,0,none⟩) 1 1 [UInt8.ofNat (x / 256 ^ k)] rfl rfl (hol_one _ _ _ _ ?hz) (by omega) (by have:=hb1.size;simp;omega) ?_)
      case hz=>exact byte_shr x k
      intro v2 w2 hown2 hg2 hat2;have hb2:Below B w w2:=(hb1.alloc (by have:=hb1.size;omega) _).grown hg2 (by have:=hb1.size;simp;omega) (fun k hk=>(hown1.lt k hk).1)
      have hown3:w2.ownsRow B 5 1 v2 (n+(k+1)) (bc (l++leb x (k+1))):=by
        rw [leb_succ, ← Zi,bc_app];exact hown2
      clear hown2 hg2 hat2 hown1 hb1;go_wp2;go_roundw
      case rel=>exact ⟨k+1,by omega,by go_num,hown3,hb2⟩
      case measure=>simp [intOf];omega
    · go_wp2;go_ret;have hks:k=size:=by omega
      subst hks;exact ⟨_,rfl,hown1,hb1⟩
theorem put_arg (v:Value) (size:Int) (x:Nat) (w:World) (h:wid size=0):
    Calls Tryz.prog 107 #[v,.int .i64 size,.int .u64 x] w fun e w'=>e=.returned (.tuple #[.slice none 0 0,.int .i64 201])∧w=w':=by
  go_enter Tryz.func107,Tryz.ntmps107;go_wp2_with (go_at_call 111;refine (width_any _ _).mono ?_;rintro e w' ⟨rfl,rfl⟩;rw [h]);go_ret2;exact ⟨rfl,rfl⟩
theorem put_long (v:Value) (size:Int) (x:Nat) (w:World) (h:wid size≠0) (hx:x / 2 ^ wid size≠0) (h64:wid size<64):
    Calls Tryz.prog 107 #[v,.int .i64 size,.int .u64 x] w fun e w'=>e=.returned (.tuple #[.slice none 0 0,.int .i64 202])∧w=w':=by
  go_enter Tryz.func107,Tryz.ntmps107
  have hx2:((x:Int) / 2 ^ wid size !=0)=true:=by
    rw [bne_iff_ne];intro e;apply hx;have:((x / 2 ^ wid size:Nat):Int)=0:=by rw [← e];simp
    omega
  have hw0:((wid size:Int)==0)=false:=by simp;omega
  clear hx h;go_wp2_with (go_at_call 111;refine (width_any _ _).mono ?_;rintro e w' ⟨rfl,rfl⟩);go_ret2;exact ⟨rfl,rfl⟩
def putR (l:List UInt8) (size:Int) (x:Nat):List UInt8 × Int:=
  if wid size=0 then ([],201) else if x / 256 ^ size.toNat≠0 then ([],202) else (l++leb x size.toNat,0)
def BytesPost (w:World) (r:List UInt8 × Int) (e:Ending) (w':World):Prop:=
  ∃ v,e=.returned (.tuple #[v,.int .i64 r.2])∧w'.ownsRow w.heap.size 5 1 v r.1.length (bc r.1)∧Below w.heap.size w w'
theorem wid_pow (size:Int) (h:wid size≠0):(2:Nat) ^ wid size=256 ^ size.toNat:=by
  have h1:=wid_eq h;have h2:=wid_pos h;have e:wid size=8*size.toNat:=by omega
  rw [e,Nat.pow_mul]
theorem put_any (A:Option Addr) (c:Nat) (l:List UInt8) (size:Int) (x:Nat) (w:World) (hA:Hol w A l) (hx:x<18446744073709551616) (hl:l.length≤35184372088832):
    Calls Tryz.prog 107 #[.slice A l.length c,.int .i64 size,.int .u64 x] w (BytesPost w (putR l size x)):=by
  by_cases h:wid size=0
  · have hr:putR l size x=([],201):=by unfold putR;rw [if_pos h]
    rw [hr];exact (put_arg _ size x w h).mono fun e w' ⟨he,hw⟩=>⟨_,he,Ye _ _ _ _,by rw [hw];exact Below.refl _ _⟩
  by_cases hx2:x / 256 ^ size.toNat≠0
  · have hr:putR l size x=([],202):=by unfold putR;rw [if_neg h,if_pos hx2]
    rw [hr];refine (put_long _ size x w h (by rw [wid_pow size h];exact hx2) ?_).mono fun e w' ⟨he,hw⟩=>⟨_,he,Ye _ _ _ _,by rw [hw];exact Below.refl _ _⟩;have hp:=wid_pos h;have he:=wid_eq h;rcases (by omega:size=8∨size<8) with h8 | h8
    · exfalso;apply hx2;rw [h8];exact Nat.div_eq_of_lt (by simpa using hx)
    · omega
  · have hr:putR l size x=(l++leb x size.toNat,0):=by unfold putR;rw [if_neg h,if_neg hx2]
    rw [hr];have hp:=wid_pos h;have he:=wid_eq h
    have hx3:((x:Int) / 2 ^ wid size !=0)=false:=by
      rw [bne_eq_false_iff_eq];have e1:(2:Int) ^ wid size=((256 ^ size.toNat:Nat):Int):=by rw [← wid_pow size h,Int.natCast_pow];rfl
      rw [e1];have:x / 256 ^ size.toNat=0:=by simpa using hx2
      rw [← Int.natCast_ediv,this];rfl
    have hw0:((wid size:Int)==0)=false:=by simp;omega
    have hw1:wid size≤64:=wid_le size;obtain ⟨k,rfl⟩:=Int.eq_ofNat_of_zero_le (by omega:0≤size);rw [Yf];have hk:k≤8:=by omega
    clear hx2 h hr hp he;go_enter Tryz.func107,Tryz.ntmps107
    go_wp2_with (first
      | (go_at_call 111;refine (width_any _ _).mono ?_;rintro e w' ⟨rfl,rfl⟩)
      | (go_at_call 110;refine (room_any A c l k w hA (by omega)).mono ?_;rintro e w1 ⟨v,rfl,hown1,hb1⟩)
      | (go_at_call 132;refine (number_any w.heap.size v l.length l k x w1 hown1 hk hx (by omega) hb1.size).mono ?_;rintro e w2 ⟨v2,rfl,hown2,hb2⟩))
    go_ret2;refine ⟨v2,rfl,?_,hb1.trans hb2⟩;have:(l++leb x k).length=l.length+k:=by rw [Zf,leb_len]
    rw [this];exact hown2
/- Flags as bytes,and a super's block by its places. No conditions. -/
def bn (f:Nat→Bool) (k:Nat):Nat→Nat
  | 0=>0
  | m+1=>bn f k m+if f (8*k+m) then 2 ^ m else 0
theorem bn_lt (f:Nat→Bool) (k:Nat):∀ m,bn f k m<2 ^ m
  | 0=>by show 0<1;omega
  | m+1=>by
    have ih:=bn_lt f k m;show bn f k m+(if f (8*k+m) then 2 ^ m else 0)<2 ^ (m+1);rw [Nat.pow_succ]
    split <;> omega
theorem bn_step (f:Nat→Bool) (k m:Nat):bn f k (m+1)=bn f k m+if f (8*k+m) then 2 ^ m else 0:=rfl
def bt (f:Nat→Bool) (k:Nat):UInt8:=UInt8.ofNat (bn f k 8)
theorem or_bits:∀ m:Fin 8,∀ q:Fin 128,q.val<2 ^ m.val→bits .or .u8 (q.val:Int) ((2 ^ m.val:Nat):Int)=((q.val+2 ^ m.val:Nat):Int):=by decide+kernel
theorem or_bit (q m:Nat) (hq:q<2 ^ m) (hm:m<8):bits .or .u8 (q:Int) ((2 ^ m:Nat):Int)=((q+2 ^ m:Nat):Int):=by
  have h:2 ^ m≤2 ^ 7:=Nat.pow_le_pow_right (by decide) (by omega);exact or_bits ⟨m,hm⟩ ⟨q,by have e:(2:Nat) ^ 7=128:=rfl;omega⟩ hq
theorem shl_bits:∀ m:Fin 8,IntKind.u8.wrap ((2:Int) ^ m.val)=((2 ^ m.val:Nat):Int):=by decide+kernel
theorem shl_bit (m:Nat) (hm:m<8):IntKind.u8.wrap ((2:Int) ^ m)=((2 ^ m:Nat):Int):=shl_bits ⟨m,hm⟩
def ub (x:UInt8) (b:Nat):Bool:=x.toNat / 2 ^ b % 2==1
def sgn (j:Nat):UInt8:=match j with
  | 0=>79
  | 1=>85
  | 2=>66
  | 3=>49
  | _=>0
def Sup.pb (x:Sup) (j:Nat):UInt8:=
  if j<4 then sgn j else if j<12 then UInt8.ofNat (x.s / 256 ^ (j - 4)) else if j<44 then bt x.u (j - 12) else if j<172 then UInt8.ofNat ((x.i (1+(j - 44) / 2)).toNat / 256 ^ ((j - 44) % 2)) else if j<180 then bt (fun k=>x.o (k+1)) (j - 172) else 0
theorem lst_add (a b:Nat) (f:Nat→UInt8):lst (a+b) f=lst a f++lst b (fun j=>f (a+j)):=by
  unfold lst;rw [List.range_add,List.map_append,List.map_map];rfl
theorem lst_congr {n:Nat} {f g:Nat→UInt8} (h:∀ j,j<n→f j=g j):lst n f=lst n g:=List.map_congr_left fun j hj=>h j (List.mem_range.1 hj)
theorem leb_lst (v k:Nat):leb v k=lst k (fun j=>UInt8.ofNat (v / 256 ^ j)):=rfl
theorem Sup.pb_sgn (x:Sup):lst 4 x.pb=[79,85,66,49]:=rfl
theorem Sup.pb_ser (x:Sup):lst 12 x.pb=lst 4 x.pb++leb x.s 8:=by
  rw [show 12=4+8 from rfl,lst_add,leb_lst];congr 1
  all_goals
    refine lst_congr fun j hj=>?_;unfold Sup.pb;rw [if_neg (by omega),if_pos (by omega),show 4+j - 4=j by omega]
theorem Sup.pb_used (x:Sup):lst 44 x.pb=lst 12 x.pb++lst 32 (bt x.u):=by
  rw [show 44=12+32 from rfl,lst_add];congr 1
  all_goals
    refine lst_congr fun j hj=>?_;unfold Sup.pb;rw [if_neg (by omega),if_neg (by omega),if_pos (by omega),show 12+j - 12=j by omega]
theorem Sup.pb_ino (x:Sup) (k:Nat) (hk:k<64):lst (44+2*(k+1)) x.pb=lst (44+2*k) x.pb++leb (x.i (k+1)).toNat 2:=by
  rw [show 44+2*(k+1)=(44+2*k)+2 by omega,lst_add,leb_lst];congr 1;refine lst_congr fun j hj=>?_;unfold Sup.pb;rw [if_neg (by omega),if_neg (by omega),if_neg (by omega),if_pos (by omega),show 44+2*k+j - 44=2*k+j by omega,show 1+(2*k+j) / 2=k+1 by omega,show (2*k+j) % 2=j by omega]
theorem Sup.pb_orp (x:Sup):lst 180 x.pb=lst 172 x.pb++lst 8 (bt fun k=>x.o (k+1)):=by
  rw [show 180=172+8 from rfl,lst_add];congr 1
  all_goals
    refine lst_congr fun j hj=>?_;unfold Sup.pb;rw [if_neg (by omega),if_neg (by omega),if_neg (by omega),if_neg (by omega),if_pos (by omega),show 172+j - 172=j by omega]
theorem Sup.pb_rest (x:Sup):lst 256 x.pb=lst 180 x.pb++List.replicate 76 0:=by
  rw [show 256=180+76 from rfl,lst_add]
  have e:lst 76 (fun j=>x.pb (180+j))=List.replicate 76 0:=by
    rw [lst_congr (g:=fun _=>0) (fun j hj=>by unfold Sup.pb;rw [if_neg (by omega),if_neg (by omega),if_neg (by omega),if_neg (by omega),if_neg (by omega)])];rfl
  rw [e]
def HolBo (w:World) (A:Option Addr) (n:Nat) (f:Nat→Bool):Prop:=∃ g o,A=some ⟨g,o,none⟩∧∀ j,j<n→w.cell? ⟨g,o+j,none⟩=some (.bool (f j))
theorem HolBo.below {w w':World} {A:Option Addr} {n:Nat} {f:Nat→Bool} (h:HolBo w A n f) (hb:Below w.heap.size w w'):HolBo w' A n f:=by
  obtain ⟨g,o,rfl,hc⟩:=h;exact ⟨g,o,rfl,fun j hj=>(hb.cell (p:=⟨g,o+j,none⟩) (Ya w _ (hc j hj))).trans (hc j hj)⟩
theorem Sup.hol_u {w:World} {g:Nat} {t:TypeId} {x:Sup} (h:Row w g t x.cs):HolBo w (some ⟨g,1,none⟩) 256 x.u:=⟨g,1,rfl,fun j hj=>by rw [h.cell,x.c_u hj]⟩
theorem Sup.hol_o {w:World} {g:Nat} {t:TypeId} {x:Sup} (h:Row w g t x.cs):HolBo w (some ⟨g,323,none⟩) 64 (fun k=>x.o (k+1)):=⟨g,323,rfl,fun j hj=>by rw [h.cell,show 323+j=322+(j+1) by omega,x.c_o (by omega)]⟩
end Go.Proofs.YtijffkklhgnknaaGreatDoor
