/- The laws' first test: the walk. Conditions: the library's tables lie there. -/
import Derived.Test.YtijffkklhgnknaaGreatDoorAz
import Derived.Test.YtijffkklhgnknaaGreatDoorMgTh2
import Derived.Test.YtijffkklhgnknaaGreatDoorMgQn
import Derived.Test.YtijffkklhgnknaaGreatDoorMgRunesRef2
import Derived.Test.YtijffkklhgnknaaGreatDoorMgRa
import Derived.Test.YtijffkklhgnknaaGreatDoorMgSc1
import Derived.Test.YtijffkklhgnknaaGreatDoorMgRef2
import Derived.Test.YtijffkklhgnknaaGreatDoorMgRe
set_option maxHeartbeats 20000000
set_option linter.unusedVariables false
set_option maxRecDepth 20000
namespace Go.Proofs.YtijffkklhgnknaaGreatDoor
open Go.RowKit
theorem wide_awk:Wide [enA,enB]:=fun e he=>by
  simp only [List.mem_cons,List.not_mem_nil,or_false] at he;rcases he with rfl | rfl <;> exact ⟨by decide,by decide⟩
theorem size_awk:∀ e ∈ [enA,enB],e.nm.size≤4294967296:=fun e he=>by
  simp only [List.mem_cons,List.not_mem_nil,or_false] at he;rcases he with rfl | rfl <;> decide
def AwkTold (w:World) (e:Ending) (w':World):Prop:=∃ g c,e=.returned (.slice (some ⟨g,0,none⟩) 1 c)∧Hid (w'.cell? ⟨g,0,none⟩=some (.string ⟨#[98]⟩))∧Below w.heap.size w w'
def AwkLeaves (w:World) (e:Ending) (w':World):Prop:=∃ g c o g2 c2 o2,e=.returned (.tuple #[.slice (some ⟨g,o,none⟩) 1 c,.int .i64 0])∧Hid (w'.cell? ⟨g,o,none⟩=some (.slice (some ⟨g2,o2,none⟩) 256 c2)∧w'.cell? ⟨g2,o2,none⟩=some (.int .u8 2))∧Below w.heap.size w w'
theorem awk_told_any (A:Option Addr) (c:Nat) (w:World) (h:Lies ecs 5 w A [enA,enB]):Calls Tryz.prog 23 #[.slice A 2 c,.int .u32 0,.int .i64 25] w (AwkTold w):=by
  have h1:=told_anyD A 2 c 0 25 [enA,enB] (by decide) w h rfl size_awk (by decide) (by decide);refine h1.mono ?_;rintro e w' ⟨A',c',k,L,rfl,ho,hk,h2,h3,hb⟩;obtain rfl:=awk_told h2 h3;rw [awk_fit] at hk;subst hk;rcases own_er ho with ⟨_,h0,_⟩ | ⟨g,Z,rfl,hg,hr,_,_⟩
  · cases h0
  · exact ⟨g,c',rfl,Za (by have h5:=hr.at_ (i:=0) (x:=enB) rfl 0 _ rfl;rw [show (0*5+0:Nat)=0 from rfl] at h5;exact h5),hb⟩
theorem awk_leaves_any (A:Option Addr) (c:Nat) (w:World) (h:Lies ecs 5 w A [enA,enB]) (hc:2≤c) (hT:Tabs w):Calls Tryz.prog 24 #[.slice A 2 c] w (AwkLeaves w):=by
  have h1:=leaves_any A 2 c [enA,enB] (by decide) w h rfl hc size_awk wide_awk hT;have e1:lvL [enA,enB]=[leafB [enA,enB]]:=by unfold lvL;rw [if_pos awk_may,awk_leaves]
  have e2:lvE [enA,enB]=0:=by unfold lvE;rw [if_pos awk_may]
  rw [e1,e2] at h1;refine h1.mono ?_;rintro e w' ⟨A',m,c',P,rfl,⟨ho,hp,h8⟩,hl,hm,hb⟩
  obtain ⟨p,rfl⟩:∃ p,P=[p]:=by
    have:=congrArg List.length hl;simp at this;exact List.length_eq_one_iff.1 this
  simp at hl;obtain rfl:m=1:=by simpa using hp.symm
  have hlen:=leafB_len [enA,enB];have hL:Lies sc 1 w' A' [p]:=Lies.own (by decide) sc_len ho;obtain ⟨g,o,rfl,hc1⟩:=hL.at_ (j:=0) (by simp);have h9:=(h8 p (by simp)).hol;rw [hl] at h9;obtain ⟨g2,o2,hA2,_,hc2⟩:=h9.some_ (by rw [hlen];decide);have h10:=hc2 0 2 awk_first;have h11:=hc1 0 (bvv p) rfl;refine ⟨g,c',o,g2,p.c,o2,rfl,Za ⟨?_,?_⟩,hb⟩
  · have e3:bvv p=.slice (some ⟨g2,o2,none⟩) 256 p.c:=by unfold bvv;rw [hA2,hl,hlen]
    rw [e3] at h11;simpa using h11
  · simpa using h10
theorem awake_anyD (w:World) (hT:Tabs w):Calls Tryz.prog 4 #[] w fun e w'=>e=.returned (.bool true)∧Below w.heap.size w w':=by
  have HT:=Za hT;have hr1:=Za (built_refD 1 1);have hr2:=Za (built_refD 2 2);have he1:=Za (built_ent4 ⟨#[97]⟩ 1 1 1 2);have he2:=Za (built_ent4 ⟨#[98]⟩ 2 2 1 1);clear hT;go_enter Tryz.func4,Tryz.ntmps4
  go_wp2_with (first
    | (refine step_build rfl 36 _ rfl [(0,.int .i64 1),(1,.int .u64 1)] ?hv _ hr1.out ?_;case hv=>simp [Act.eval]
       clear hr1)
    | (refine step_build rfl 36 _ rfl [(0,.int .i64 2),(1,.int .u64 2)] ?hv2 _ hr2.out ?_;case hv2=>simp [Act.eval]
       clear hr2)
    | (refine step_build rfl 61 _ rfl [(0,.string ⟨#[97]⟩),(1,.agg #[.int .i64 1,.int .u64 1]),(2,.int .i64 1),(3,.int .u32 2)] ?hv3 _ he1.out ?_;case hv3=>simp [Act.eval]
       clear he1)
    | (refine step_build rfl 61 _ rfl [(0,.string ⟨#[98]⟩),(1,.agg #[.int .i64 2,.int .u64 2]),(2,.int .i64 1),(3,.int .u32 1)] ?hv4 _ he2.out ?_;case hv4=>simp [Act.eval]
       clear he2)
    | (refine step_bs2 rfl 46 61 _ _ rfl Tryz.underlying46 5 (info_ent ent0) (by decide) _ zero_ent (ecs enA) (ecs enB) rfl rfl rfl rfl ?_;intro g1 w1 hr1 hg1 hb1
       have HL1:=Za (p:=Lies ecs 5 w1 (some ⟨g1,0,none⟩) [enA,enB]) (.inr ⟨g1,0,rfl,fun j x hx i u hu=>by
         rw [hr1.cell];rcases j with _ | _ | j
         · simp at hx;subst hx;have hi:i<5:=by have:=(Zn.1 hu).1;simpa [ecs_len] using this
           rw [show 0+0*5+i=i by omega,Zv (by rw [ecs_len];omega)];exact hu
         · simp at hx;subst hx;rw [Zm (by rw [ecs_len];omega),ecs_len,show 0+(0+1)*5+i - 5=i by omega];exact hu
         · simp at hx⟩)
       have B1:=Za hb1;clear hr1 hg1 hb1)
    | (go_at_call 23;refine (awk_told_any _ _ _ HL1.out).mono ?_;rintro e w2 ⟨g2,c2,rfl,HC2,hb2⟩;have HL2:=Za (HL1.out.below hb2)
       have B2:=Za (below_nxt hb2 B1.out);clear hb2)
    | (go_at_call 24;refine (awk_leaves_any _ _ _ HL2.out (by decide) (tabs_below HT.out B2.out)).mono ?_;rintro e w3 ⟨g3,c3,o3,g4,c4,o4,rfl,HC3,hb3⟩;have f1:=HC3.out.1
       have f2:=HC3.out.2;have f3:w3.cell? ⟨g2,0,none⟩=some (.string ⟨#[98]⟩):=(hb3.cell (p:=⟨g2,0,none⟩) (Ya w2 _ HC2.out)).trans HC2.out;have B3:=Za (below_nxt hb3 B2.out);clear hb3))
  go_ret;exact ⟨rfl,B3.out⟩
/- The walk of DirParses. Conditions:the library's tables lie there,lengths are within the reach. -/
section
variable {H:Type} {enc:TypeId × Value→H} {W:World} {sp:Nat→Bool} {held:Bool} {base:Nat}
end
theorem prL_len (Bs:List (List UInt8)):(prL Bs).length≤256*Bs.length:=by
  unfold prL
  split
  · exact prs_len Bs
  · simp
/- What the function that DirFiles runs leans on:the lists that came in,the desk. Conditions:those named. -/
structure EL where
  A:Option Addr
  c:Nat
  X:List Ent
def elv (y:EL):Value:=.slice y.A y.X.length y.c
structure ElOk (W:World) (y:EL):Prop where
  lies:Lies ecs 5 W y.A y.X
  cap_:y.X.length≤y.c
  max_:y.X.length≤9223372036854775807
  nm:∀ e ∈ y.X,e.nm.size≤140737488355328
  wide:Wide y.X
structure InLs (W:World) (A:Option Addr) (n:Nat) (LL:List EL):Prop where
  len_:LL.length=n
  at_:∀ (j:Nat) y,LL[j]?=some y→∃ g o,A=some ⟨g,o,none⟩∧W.cell? ⟨g,o+j,none⟩=some (elv y)∧ElOk W y
section
variable {b:Nat} {w w' W W':World} {gd gv gm gs r pr gn:Nat} {Bs:List BV} {N n n' m k:Nat} {X X':DX} {v v' R:Nat→Int} {F F2:Nat→UInt8} {x:Value}
theorem FS.env (h:FS b w W gd gv gm gs r pr gn Bs n X v x):Below b w W:=h.chg.below h.lo.2.2.2.2.2.1 (fun z hz=>by
  have hl:=h.lo;simp at hz;rcases hz with rfl | rfl
  · exact hl.2.2.2.2.2.2.2
  · exact hl.2.2.2.2.2.2.1)
theorem FS.env2 (h:FS b w W gd gv gm gs r pr gn Bs n X v x) {G:List Nat} (hc:Chg G W W') (hG:∀ y ∈ G,y=gd∨y=gm):Below b w W':=h.env.trans (hc.below (Nat.le_trans h.lo.2.2.2.2.2.1 h.chg.size) (fun z hz=>by
  have hl:=h.lo;rcases hG z hz with rfl | rfl
  · omega
  · exact hl.2.2.2.2.2.2.2))
theorem FS.more (h:FS b w W gd gv gm gs r pr gn Bs n X v x) (hn:n≤n'):FS b w W gd gv gm gs r pr gn Bs n' X v x:=⟨h.dk.mono hn,h.chg,h.row,h.prr,h.lo⟩
theorem FS.bel (h:FS b w W gd gv gm gs r pr gn Bs n X v x) (hb:Below W.heap.size W W'):FS b w W' gd gv gm gs r pr gn Bs n X v x:=h.call (h.dk.below hb) (Chg.of (F:=[]) hb) (fun y hy=>by simp at hy)
theorem dlist_bad (L:Nat) (hL:L % 256≠0) (hsz:v 5=(L:Int)) (w:World):Calls Tryz.prog 16 #[.pointer (some ⟨gd,0,none⟩),.agg (ncs v).toArray] w fun e w'=>e=.returned (.tuple #[.slice none 0 0,.int .i64 5])∧Hid (Below w.heap.size w w'):=by
  obtain ⟨t,ht⟩:∃ t:Nat,L % 256=t:=⟨_,rfl⟩;have hm:Int.tmod (L:Int) 256=(t:Int):=by rw [Int.tmod_eq_emod_of_nonneg (by omega)];omega
  have hne:((t:Int) !=0)=true:=by rw [bne_iff_ne];omega
  have HSZ:=Za hsz;have i2:=Za (fun v=>info_ncs v);clear hL hsz ht;go_enter Tryz.func16,Tryz.ntmps16
  go_wp2_with (refine step_box rfl 3 rfl 43 (.tmp 1) rfl (ncs v) rfl ?_;intro g3 w1 hr1 hg1 hb1 hs1;have B1:=Za hb1
               have c5:w1.cell? ⟨g3,5,none⟩=some (.int .i64 (L:Int)):=by rw [← HSZ.out];exact (hr1.cell 5).trans rfl
               clear hr1 hg1 hb1 hs1)
  go_ret2;exact ⟨rfl,B1⟩
theorem may_sizeU {e:Ent} (h:MayE e):e.nm.size≤32:=by
  have h1:=h.1;have h2:e.nm.data.toList.length=e.nm.size:=Array.length_toList;unfold nameR at h1
  split at h1
  · cases h1
  · split at h1
    · split at h1
      · cases h1
      · omega
    · cases h1
theorem may_none:MayL []:=⟨Nat.zero_le _,(fun e he=>by cases he),(fun q x y h=>by simp at h),(fun c=>by simp)⟩
theorem pr_leaves {X:List Ent} (hm:MayL X) (hw:Wide X):prL (leaves X)=X∧prE (leaves X)=0:=by
  have h1:=okb_of hm hw rfl;obtain ⟨h3,h4⟩:=prL_yes h1.1;exact ⟨h3.trans h1.2,h4⟩
def ListQ (b:Nat) (w:World) (gd gv gm gs r:Nat) (Bs:List BV) (N n:Nat) (X:DX) (Xl:List Ent) (q:Nat) (e:Ending) (w':World):Prop:=
  ∃ A c,e=.returned (.tuple #[.slice A q c,.int .i64 0])∧Hid (w'.ownsRow w.heap.size 61 5 (.slice A q c) q (Xl.flatMap ecs))∧Hid (DK b w' gd gv gm gs r Bs N n X)∧Hid (Chg [gd] w w')
theorem DF.list (h:DF Bs X v R k F) (Xl:List Ent) (q:Nat) (hq:Xl.length=q) (hk:(leaves Xl).length=k) (hf:lst (k*256) F=(leaves Xl).flatten) (hm:MayL Xl) (hw:Wide Xl) (hdk:DK b w gd gv gm gs r Bs N n X) (hn:n≤3000) (hT:∀ W,Chg [gd] w W→Tabs W):
    Calls Tryz.prog 16 #[.pointer (some ⟨gd,0,none⟩),.agg (ncs v).toArray] w (ListQ b w gd gv gm gs r Bs N n X Xl q):=by
  have h1:=dlist h.fo k (k*256) rfl (by have:=h.lim;omega) h.size hdk hn hT;have e1:cutB (lst (k*256) F) k=leaves Xl:=by rw [hf, ← hk];exact cutB_flat _ leaves_256
  rw [e1,(pr_leaves hm hw).1,(pr_leaves hm hw).2] at h1;unfold ListP at h1;rw [hq] at h1;exact h1
def LeavesQ (w:World) (k:Nat) (e:Ending) (w':World):Prop:=∃ A c,e=.returned (.tuple #[.slice A k c,.int .i64 0])∧Hid (Below w.heap.size w w')
theorem rleaves_q (A:Option Addr) (q c:Nat) (Xl:List Ent) (hq:Xl.length=q) (hqc:q≤c) (k:Nat) (hk:(leaves Xl).length=k) (hm:MayL Xl) (hw:Wide Xl) (h:Lies ecs 5 w A Xl):
    Calls Tryz.prog 17 #[.slice A q c] w (LeavesQ w k):=by
  refine (rleaves_any A q c Xl (by have:=hm.1;omega) w h hq hqc (fun e he=>by have:=may_sizeU (hm.2.1 e he);omega) hw).mono ?_;rintro e w' ⟨A',m,c',P,rfl,ho,hl,_,hb⟩;have e1:lvL Xl=leaves Xl:=by unfold lvL;rw [if_pos hm]
  have e2:lvE Xl=0:=by unfold lvE;rw [if_pos hm]
  have e3:m=k:=by rw [← hk, ← e1, ← hl,List.length_map];exact ho.2.1.symm
  rw [e2,e3];exact ⟨A',c',rfl,Za hb⟩
theorem DF.cut0 (h:DF Bs X v R k F) (hn:n+131≤3000) (hk:DK b w gd gv gm gs r Bs N n X):Calls Tryz.prog 21 #[.pointer (some ⟨gd,0,none⟩),.agg (ncs v).toArray,.int .i64 0] w fun ee w'=>∃ (v2 R2:Nat→Int) (X2:DX) (F2:Nat→UInt8),ee=.returned (.agg (ncs v2).toArray)∧Hid (DF Bs X2 v2 R2 0 F2)∧Hid (DK b w' gd gv gm gs r Bs N (n+131) X2)∧Hid (Chg [gd,gm] w w'):=by
  refine (h.cut (F2:=fun i=>if i<0 then F i else 0) 0 0 rfl (Nat.zero_le _) hn hk (fun i=>rfl)).mono ?_;rintro e w' ⟨v2,R2,X2,rfl,h1,h2,h3⟩;exact ⟨v2,R2,X2,_,rfl,h1,h2,h3⟩
theorem DF.bad (h:DF Bs X v R 0 F) (A:Option Addr) (c LB:Nat) (l:L8) (hl:l.length=LB) (hlc:LB≤c) (h1000:LB≤1000) (hn:n+130≤2999) (hN:N≤256) (hroom:9≤N) (hk:DK b w gd gv gm gs r Bs N n X) (hD:∀ W,Chg [gd,gm] w W→Hol W A l):
    Calls Tryz.prog 20 #[.pointer (some ⟨gd,0,none⟩),.agg (ncs v).toArray,.int .i64 0,.slice A LB c] w fun ee w'=>∃ (v2 R2:Nat→Int) (m2:Nat) (X2:DX) (F2:Nat→UInt8),ee=.returned (.agg (ncs v2).toArray)∧Hid (FO Bs X2 v2 R2 m2 F2)∧Hid (v2 5=(LB:Int)∧lst LB F2=l)∧Hid (DK b w' gd gv gm gs r Bs N (n+130) X2)∧Hid (Chg [gd,gm] w w'):=by
  have h1:=h.fo.write_any (F2:=fun i=>if 0≤i∧i<0+l.length then l.getD (i - 0) 0 else F i) 2 iA oA h.S h.rd (by decide) A c 0 l (by omega) (by omega) hn hN 5 (by omega) (by omega) hk hD (fun i=>rfl) 0 LB h.size (by rw [hl];split <;> omega);rw [hl] at h1;refine h1.mono ?_;rintro e w' ⟨v2,R2,m2,X2,rfl,h2,_,h4,h5,h6⟩
  exact ⟨v2,R2,m2,X2,_,rfl,h2,Za ⟨h4.out,lst_of hl (fun i hi=>by
    show (if 0≤i∧i<0+LB then l.getD (i - 0) 0 else F i)=_;rw [if_pos (by omega),Nat.sub_zero])⟩,h5,h6⟩
def bdP (g o c:Nat) (l:L8) (k:Nat):List BV:=(List.range k).map fun q=>⟨some ⟨g,o+q*256,none⟩,c - q*256,(l.drop (q*256)).take 256⟩
theorem bdP_len (g o c:Nat) (l:L8) (k:Nat):(bdP g o c l k).length=k:=by simp [bdP]
theorem bdP_l (g o c:Nat) (l:L8) (k:Nat):(bdP g o c l k).map (·.l)=cutB l k:=by simp [bdP,cutB]
theorem bdP_succ (g o c:Nat) (l:L8) (k:Nat) (hk:(k+1)*256≤l.length):(bdP g o c l (k+1)).flatMap sc=(bdP g o c l k).flatMap sc++[.slice (some ⟨g,o+k*256,none⟩) 256 (c - k*256)]:=by
  unfold bdP;rw [List.range_succ,List.map_append,List.flatMap_append]
  have e:((l.drop (k*256)).take 256).length=256:=by
    rw [Zu,Zs];omega
  simp only [List.map_cons,List.map_nil,List.flatMap_cons,List.flatMap_nil,Zy,sc,bvv,e]
theorem bdP_hol {w:World} {g o c k:Nat} {l:L8} (h:Hol w (some ⟨g,o,none⟩) l) (hk:k*256≤l.length) (hc:l.length≤c):∀ b ∈ bdP g o c l k,Hol w b.A b.l∧b.l.length≤2000∧b.l.length≤b.c:=fun b hb=>by
  obtain ⟨q,hq,rfl⟩:=List.mem_map.1 hb;have hq:=List.mem_range.1 hq;have h1:(q+1)*256≤k*256:=Nat.mul_le_mul_right _ hq;have h2:=(h.cut (cap:=c) (q*256) hc).take_ 256;rw [if_neg (by omega)] at h2;have e:(some (⟨g,o,none⟩:Addr)).map (·.add (q*256))=some ⟨g,o+q*256,none⟩:=by simp [Addr.add]
  rw [e] at h2;refine ⟨h2,?_,?_⟩
  · show ((l.drop (q*256)).take 256).length≤2000;rw [Zu];omega
  · show ((l.drop (q*256)).take 256).length≤c - q*256;rw [Zu,Zs];omega
theorem bd_cut (g o c L q q2:Nat) (h0:q+256=q2) (h1:q2≤L) (h2:L≤c) (W:World):(Instr.slice 23 (.slice (some ⟨g,o,none⟩) L c) (some (.int .i64 (q:Int))) (some (.int .i64 (q2:Int))) none).run Tryz.prog W=.ok (.slice (some ⟨g,o+q,none⟩) 256 (c - q)) W:=by
  rw [run_slice_lh (P:=Tryz.prog) W 23 (some ⟨g,o,none⟩) L c (by kernel_rfl) .i64 .i64 q q2 (by omega) (by omega) (by omega)];have hs:(sizeOf (Tryz.prog.elem 23)).run Tryz.prog W=.ok 1 W:=by kernel_rfl
  rw [hs];have hne:¬ c=q:=by omega
  have hne2:¬ q=c:=by omega
  have hsub:q2 - q=256:=by omega
  simp [Result.andThen,sliced,hne,hsub,Addr.add]
end
end Go.Proofs.YtijffkklhgnknaaGreatDoor
