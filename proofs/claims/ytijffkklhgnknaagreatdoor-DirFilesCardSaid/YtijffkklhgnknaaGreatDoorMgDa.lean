/- A desk as it lies: its cells, and what it leans on. No conditions but those named. -/
import Derived.Test.YtijffkklhgnknaaGreatDoorAz
import Derived.Test.YtijffkklhgnknaaGreatDoorMgKd
import Derived.Test.YtijffkklhgnknaaGreatDoorMgGv
import Derived.Test.YtijffkklhgnknaaGreatDoorMgIf
import Derived.Deep.MidRow
import Derived.Test.YtijffkklhgnknaaGreatDoorMgChg
import Derived.Laws.IdiomCopy
import Derived.RegionTactic
set_option maxHeartbeats 20000000
set_option linter.unusedVariables false
set_option maxRecDepth 20000
namespace Go.Proofs.YtijffkklhgnknaaGreatDoor
open Go.RowKit
def setL:List Value→Nat→List Value→List Value
  | L,_,[]=>L
  | L,o,v::r=>setL (L.set o v) (o+1) r
theorem Row.sets {g:Nat} {t:TypeId}:∀ (vs:List Value) (o:Nat) {w:World} {L:List Value},Row w g t L→Row (w.setCells g o vs) g t (setL L o vs)
  | [],_,_,_,h=>h
  | v::r,o,w,L,h=>Row.sets r (o+1) (h.put o v)
theorem setL_mid (B:List Value):∀ (vs M A:List Value),M.length=vs.length→setL (A++(M++B)) A.length vs=A++(vs++B)
  | [],M,A,h=>by
    rw [List.length_nil] at h;rw [Zk h];rfl
  | v::r,[],A,h=>by simp at h
  | v ::r,m::M,A,h=>by
    have h1:=setL_mid B r M (A++[v]) (by simpa using h)
    have h2:(A++(m::M++B)).set A.length v=A++[v]++(M++B):=by
      rw [List.set_append_right _ _ (Zj _)];simp
    unfold setL;rw [h2];rw [Zf,List.length_singleton] at h1;rw [h1];simp
theorem grown_sets (g:Nat):∀ (vs:List Value) (o:Nat) (w:World),w.grownBy (w.setCells g o vs) (some g)
  | [],_,w=>⟨rfl,rfl,rfl,Zj _,fun _ _ _=>rfl⟩
  | v::r,o,w=>grown_trans (grown_set w ⟨g,o,none⟩ v) (grown_sets g r (o+1) _)
section
variable {P:Program} {ops:Array Oper} {rest:List Oper} {o:Oper} {a:Act} {w:World} {Q:Exit→Act→World→Prop} {K:Act→World→Prop}
theorem Row.rng {g off:Nat} {t:TypeId} {A M B:List Value} (h:Row w g t (A++(M++B))) (ha:A.length=off):w.rangeAt g off M:=fun j v hv=>by
  subst ha;have hj:j<M.length:=(Zn.1 hv).1;rw [h.cell,Zm (by omega),Nat.add_sub_cancel_left,Zv hj];exact hv
theorem step_load_at (hgd:o.guard=none) (ty:TypeId) (x:Operand) (ho:o.op=.load ty x) (g off:Nat) (hx:a.eval x=.pointer (some ⟨g,off,none⟩)) (t:TypeId) (A cs B:List Value) (dd:TypeDesc)
    (hr:Row w g t (A++(cs++B))) (ha:A.length=off) (hu:P.underlying ty=some dd) (hdd:dd.isRow=true) (hi:(P.info? ty).map (·.size)=some cs.length)
    (h:wpList P ops Q rest (a.put o.dst (.agg cs.toArray)) w):wpList P ops Q (o::rest) a w:=
  wpList_load_mid hgd ty x ho g off hx cs dd (hr.rng ha) hu hdd hi h
theorem row_store {g off:Nat} {t:TypeId} {A old cs B:List Value} (hr:Row w g t (A++(old++B))) (ha:A.length=off) (hl:old.length=cs.length):Row (w.setCells g off cs) g t (A++(cs++B)):=by
  have h:=hr.sets cs off;subst ha;rwa [setL_mid B cs old A hl] at h
theorem k_store_at (ty:TypeId) (x y:Operand) (ho:o.op=.store ty x y) (g off:Nat) (hx:a.eval x=.pointer (some ⟨g,off,none⟩)) (t:TypeId) (A old cs B:List Value) (hy:a.eval y=.agg cs.toArray)
    (hr:Row w g t (A++(old++B))) (ha:A.length=off) (hl:old.length=cs.length) (hi:(P.info? ty).map (·.size)=some cs.length) (h1:∀ v ∈ cs,v.oneCell'=true)
    (h:∀ w',Row w' g t (A++(cs++B))→w.grownBy w' (some g)→K (a.put o.dst undef) w'):Oper.wp P o a w K Q:=by
  refine wp_store_mid ty x y ho g off cs.toArray hx hy ?_ (by simpa using hi) (all_oneCell_toArray h1) ?_
  · have h2:=hr.is_there off cs.length (by subst ha;simp;omega);simpa using h2
  · exact h _ (by simpa using row_store hr ha hl) (grown_sets g _ off w)
theorem step_store_at (hgd:o.guard=none) (ty:TypeId) (x y:Operand) (ho:o.op=.store ty x y) (g off:Nat) (hx:a.eval x=.pointer (some ⟨g,off,none⟩)) (t:TypeId) (A old cs B:List Value) (hy:a.eval y=.agg cs.toArray)
    (hr:Row w g t (A++(old++B))) (ha:A.length=off) (hl:old.length=cs.length) (hi:(P.info? ty).map (·.size)=some cs.length) (h1:∀ v ∈ cs,v.oneCell'=true)
    (h:∀ w',Row w' g t (A++(cs++B))→w.grownBy w' (some g)→wpList P ops Q rest (a.put o.dst undef) w'):wpList P ops Q (o::rest) a w:=
  wpList_plain hgd fun _ hK=>k_store_at ty x y ho g off hx t A old cs B hy hr ha hl hi h1 (fun w' h2 h3=>hK _ _ (h w' h2 h3))
end
def bkcs (rd:Bool) (S S0:Sup):List Value:=.bool rd::(S.cs++S0.cs)
theorem bkcs_len (rd:Bool) (S S0:Sup):(bkcs rd S S0).length=775:=by simp [bkcs,Sup.cs_len]
theorem bkcs_one (rd:Bool) (S S0:Sup):∀ v ∈ bkcs rd S S0,v.oneCell'=true:=by
  intro v hv;unfold bkcs at hv;rcases List.mem_cons.1 hv with rfl | hv
  · rfl
  · rcases List.mem_append.1 hv with hv | hv
    · exact S.cs_one v hv
    · exact S0.cs_one v hv
def dtl (wt:Bool) (la:Int):List Value:=[.bool wt,.int .i64 la]
def dhd (gv N:Nat):List Value:=[.pointer (some ⟨gv,0,none⟩),.int .i64 (N:Int)]
def dcs (gv N:Nat) (bk ah:List Value) (wt:Bool) (la:Int):List Value:=dhd gv N++(bk++(ah++dtl wt la))
section
variable {gv N:Nat} {bk ah:List Value} {wt:Bool} {la:Int} {rd:Bool} {S S0:Sup}
theorem dcs_S:dcs gv N (bkcs rd S S0) ah wt la=(dhd gv N++[.bool rd])++(S.cs++(S0.cs++(ah++dtl wt la))):=by simp [dcs,bkcs]
theorem dcs_ah:dcs gv N bk ah wt la=(dhd gv N++bk)++(ah++dtl wt la):=by simp [dcs]
theorem dcs_tl:dcs gv N bk ah wt la=(dhd gv N++(bk++ah))++(dtl wt la++[]):=by simp [dcs]
theorem dcs_2:(dcs gv N (bkcs rd S S0) ah wt la)[2]?=some (.bool rd):=rfl
theorem dcs_wt (hb:bk.length=775) (ha:ah.length=775):(dcs gv N bk ah wt la)[1552]?=some (.bool wt):=by
  rw [dcs_tl,Zm (by simp [dhd,hb,ha])];simp [dhd,hb,ha,dtl]
theorem dcs_la (hb:bk.length=775) (ha:ah.length=775):(dcs gv N bk ah wt la)[1553]?=some (.int .i64 la):=by
  rw [dcs_tl,Zm (by simp [dhd,hb,ha])];simp [dhd,hb,ha,dtl]
theorem dcs_set_wt (hb:bk.length=775) (ha:ah.length=775) (z:Bool):(dcs gv N bk ah wt la).set 1552 (.bool z)=dcs gv N bk ah z la:=by
  rw [dcs_tl,dcs_tl,List.set_append_right _ _ (by simp [dhd,hb,ha])];simp [dhd,hb,ha,dtl]
theorem dcs_set_la (hb:bk.length=775) (ha:ah.length=775) (z:Int):(dcs gv N bk ah wt la).set 1553 (.int .i64 z)=dcs gv N bk ah wt z:=by
  rw [dcs_tl,dcs_tl,List.set_append_right _ _ (by simp [dhd,hb,ha])];simp [dhd,hb,ha,dtl]
theorem dcs_i {j:Nat} (hj:j<65):(dcs gv N (bkcs rd S S0) ah wt la)[260+j]?=some (.int .i64 (S.i j)):=by
  rw [dcs_S,Zm (by simp [dhd];omega)];rw [Zv (by simp [dhd,Sup.cs_len];omega)];have:=S.c_i hj;rw [← this];congr 1;simp [dhd];omega
end
theorem info_bk:(Tryz.prog.info? 78).map (·.size)=some 775:=by kernel_rfl
theorem info_bkcs (bk:List Value) (h:bk.length=775):(Tryz.prog.info? 78).map (·.size)=some bk.length:=by rw [h];exact info_bk
def zl:List Value:=.pointer none:: .int .i64 0::(bkcs false sup0 sup0++(bkcs false sup0 sup0++dtl false 0))
theorem zero_desk:∃ it,Tryz.prog.info? 80=some it∧∃ z,it.zero=some z∧z.cells=zl.toArray:=by
  have h:(Tryz.prog.info? 80).map (fun it=>it.zero.map (·.cells))=some (some zl.toArray):=by kernel_rfl
  cases hi:Tryz.prog.info? 80 with
  | none=>rw [hi] at h;cases h
  | some it=>
    rw [hi] at h;simp only [Option.map_some,Option.some.injEq] at h;obtain ⟨z,h1,h2⟩:=Option.map_eq_some_iff.1 h;exact ⟨it,rfl,z,h1,h2⟩
theorem places_desk:(Tryz.prog.fieldsOf 80).toList.mapM (fun f=>(Tryz.prog.info? f.type).map fun i=>(f.offset,i.size))=some [(0,1),(1,1),(2,775),(777,775),(1552,1),(1553,1)]:=by kernel_rfl
theorem fill_one {place:Nat→Option (Nat × Nat)} {cells:Array Value} {i off:Nat} {v:Value} {rest:List (Nat × Value)} (hp:place i=some (off,1)) (hv:v.cells=#[v]) (ho:off<cells.size):
    Instr.fill place cells ((i,v)::rest)=Instr.fill place (cells.setIfInBounds off v) rest:=by
  rw [Instr.fill,hp];simp only [hv];rw [if_neg (by simp;omega)];simp
theorem built_desk (gv N:Nat):Tryz.prog.built 80 [(0,.pointer (some ⟨gv,0,none⟩)),(1,.int .i64 (N:Int)),(5,.int .i64 (-1))]=some (dcs gv N (bkcs false sup0 sup0) (bkcs false sup0 sup0) false (-1)).toArray:=by
  obtain ⟨it,hi,z,hz,hc⟩:=zero_desk;have hu:Tryz.prog.underlying 80=some (.struct (Tryz.prog.fieldsOf 80)):=by kernel_rfl
  have hl:zl.length=1554:=by simp [zl,bkcs_len,dtl]
  unfold Program.built;rw [hi,hu];simp only [hz,places_desk,hc];rw [fill_one (off:=0) rfl rfl (by simp [hl]),fill_one (off:=1) rfl rfl (by simp [hl]),fill_one (off:=1553) rfl rfl (by simp [hl])];simp only [Instr.fill,Zb]
  have e:(zl.set 0 (.pointer (some ⟨gv,0,none⟩))).set 1 (.int .i64 (N:Int))=dcs gv N (bkcs false sup0 sup0) (bkcs false sup0 sup0) false 0:=by
    unfold zl dcs dhd;rw [Zc,Zd,Zc];rfl
  rw [e,dcs_set_la (bkcs_len _ _ _) (bkcs_len _ _ _)]
theorem foldl_sets (off:Nat):∀ (vs:List Value) (k:Nat) (L:List Value),(vs.zipIdx k).foldl (fun (cs:Array Value) (x:Value × Nat)=>cs.setIfInBounds (off+x.2) x.1) L.toArray=(setL L (off+k) vs).toArray
  | [],_,_=>rfl
  | v::r,k,L=>by
    rw [List.zipIdx_cons,List.foldl_cons];simp only [Zb];rw [foldl_sets off r (k+1) (L.set (off+k) v)];rfl
theorem fill_part {place:Nat→Option (Nat × Nat)} {A old B vs:List Value} {i off n:Nat} {v:Value} {rest:List (Nat × Value)} (hp:place i=some (off,n)) (hv:v.cells=vs.toArray) (hn:vs.length=n) (hA:A.length=off) (ho:old.length=n):
    Instr.fill place (A++(old++B)).toArray ((i,v)::rest)=Instr.fill place (A++(vs++B)).toArray rest:=by
  subst hA hn;rw [Instr.fill,hp];simp only [hv];rw [if_neg (by simp;omega)];have h:=foldl_sets A.length vs 0 (A++(old++B));rw [Nat.add_zero,setL_mid B vs old A ho] at h;rw [← h];simp
theorem zero_book:∃ it,Tryz.prog.info? 78=some it∧∃ z,it.zero=some z∧z.cells=(bkcs false sup0 sup0).toArray:=by
  have h:(Tryz.prog.info? 78).map (fun it=>it.zero.map (·.cells))=some (some (bkcs false sup0 sup0).toArray):=by kernel_rfl
  cases hi:Tryz.prog.info? 78 with
  | none=>rw [hi] at h;cases h
  | some it=>
    rw [hi] at h;simp only [Option.map_some,Option.some.injEq] at h;obtain ⟨z,h1,h2⟩:=Option.map_eq_some_iff.1 h;exact ⟨it,rfl,z,h1,h2⟩
theorem places_book:(Tryz.prog.fieldsOf 78).toList.mapM (fun f=>(Tryz.prog.info? f.type).map fun i=>(f.offset,i.size))=some [(0,1),(1,387),(388,387)]:=by kernel_rfl
theorem built_book (S S0:Sup):Tryz.prog.built 78 [(0,.bool true),(1,.agg S.cs.toArray),(2,.agg S0.cs.toArray)]=some (bkcs true S S0).toArray:=by
  obtain ⟨it,hi,z,hz,hc⟩:=zero_book;have hu:Tryz.prog.underlying 78=some (.struct (Tryz.prog.fieldsOf 78)):=by kernel_rfl
  unfold Program.built;rw [hi,hu];simp only [hz,places_book,hc];have e:bkcs false sup0 sup0=[]++([.bool false]++(sup0.cs++sup0.cs)):=rfl;rw [e,fill_part (vs:=[.bool true]) (n:=1) (off:=0) rfl rfl rfl rfl rfl];have e2:([]++([Value.bool true]++(sup0.cs++sup0.cs)):List Value)=[.bool true]++(sup0.cs++sup0.cs):=rfl;rw [e2,fill_part (vs:=S.cs) (n:=387) (off:=1) rfl rfl (Sup.cs_len _) rfl (Sup.cs_len _)];have e3:([Value.bool true]++(S.cs++sup0.cs):List Value)=(.bool true::S.cs)++(sup0.cs++[]):=by simp
  rw [e3,fill_part (vs:=S0.cs) (n:=387) (off:=388) rfl rfl (Sup.cs_len _) (by simp [Sup.cs_len]) (Sup.cs_len _)];simp [Instr.fill,bkcs]
abbrev L8:=List UInt8
structure DX where
  rd:Bool
  S:Sup
  S0:Sup
  C:Int→Option L8
def seeX (X:DX) (Bs:List BV) (a:Int):Option L8:=match X.C a with | some l=>some l | none=>(srcF Bs a).map (·.l)
def norm (l:L8):L8:=if l=[] then List.replicate 256 0 else l
def upS (C:Int→Option L8) (a:Int) (l:L8):Int→Option L8:=fun k=>if k=a then some l else C k
theorem byL_up (C:Int→Option BV) (a:Int) (x:BV):byL (upC C a x)=upS (byL C) a x.l:=by
  funext k;unfold byL upC upS;by_cases e:k=a
  · rw [if_pos e,if_pos e];rfl
  · rw [if_neg e,if_neg e]
structure DK (b:Nat) (w:World) (gd gv gm gs r:Nat) (Bs:List BV) (N n:Nat) (X:DX):Prop where
  desk:∃ ah la,ah.length=775∧(∀ v ∈ ah,v.oneCell'=true)∧Row w gd 80 (dcs gv N (bkcs X.rd X.S X.S0) ah false la)
  view:∃ C,VV b w gv gm gs (some ⟨r,0,none⟩) n C∧byL C=X.C
  run:Row w r 70 (rcs false 0)
  src:Src b w gs Bs
  lo:b≤gd∧b≤r∧b≤w.heap.size
section
variable {b:Nat} {w w':World} {gd gv gm gs r:Nat} {Bs:List BV} {N n:Nat} {X:DX}
theorem DK.lt (h:DK b w gd gv gm gs r Bs N n X):gd<w.heap.size:=by obtain ⟨_,_,_,_,h1⟩:=h.desk;exact h1.lt
theorem DK.ne (h:DK b w gd gv gm gs r Bs N n X):gd≠gv∧gd≠gm∧gd≠r∧gv≠gm∧gv≠r∧gm≠r:=by
  obtain ⟨_,_,_,_,h1⟩:=h.desk;obtain ⟨C,h2,_⟩:=h.view;refine ⟨h1.ne_ h2.row (by decide),fun e=>h2.map.no_cells _ _ _ (e ▸ h1.heap),h1.ne_ h.run (by decide),h2.ne,h2.row.ne_ h.run (by decide),fun e=>h2.map.no_cells _ _ _ (e ▸ h.run.heap)⟩
theorem DK.chg {F:List Nat} (h:DK b w gd gv gm gs r Bs N n X) (hc:Chg F w w') (h1:gd ∉ F) (h2:gv ∉ F) (h3:gm ∉ F) (h4:r ∉ F) (hN:NoBytes w F) (hb:∀ x ∈ F,b≤x):DK b w' gd gv gm gs r Bs N n X:=by
  obtain ⟨ah,la,e1,e2,e3⟩:=h.desk;obtain ⟨C,v1,v2⟩:=h.view;exact ⟨⟨ah,la,e1,e2,hc.row e3 h1⟩,⟨C,v1.keepN hc h2 h3 hN,v2⟩,hc.row h.run h4,h.src.keep (hc.below h.lo.2.2 hb),h.lo.1,h.lo.2.1,Nat.le_trans h.lo.2.2 hc.size⟩
theorem DK.below (h:DK b w gd gv gm gs r Bs N n X) (hb:Below w.heap.size w w'):DK b w' gd gv gm gs r Bs N n X:=
  h.chg (F:=[]) (Chg.of hb) (by simp) (by simp) (by simp) (by simp) (fun x hx=>by simp at hx) (by simp)
theorem DK.own (h:DK b w gd gv gm gs r Bs N n X) {ah:List Value} {la:Int} {X':DX} (hr:Row w' gd 80 (dcs gv N (bkcs X'.rd X'.S X'.S0) ah false la)) (ha:ah.length=775) (h1:∀ v ∈ ah,v.oneCell'=true) (hC:X'.C=X.C) (hg:Chg [gd] w w'):DK b w' gd gv gm gs r Bs N n X':=by
  obtain ⟨n1,n2,n3,n4,n5,n6⟩:=h.ne;obtain ⟨_,_,_,_,h0⟩:=h.desk
  have hN:NoBytes w [gd]:=fun x hx cs fr=>by
    rw [Zr] at hx;subst hx;exact row_noB h0 (by decide) _ _
  obtain ⟨C,v1,v2⟩:=h.view;exact ⟨⟨ah,la,ha,h1,hr⟩,⟨C,v1.keepN hg (by simp;exact n1.symm) (by simp;exact n2.symm) hN,by rw [hC];exact v2⟩,hg.row h.run (by simp;exact n3.symm),h.src.keep (hg.below h.lo.2.2 (fun x hx=>by rw [Zr] at hx;subst hx;exact h.lo.1)),h.lo.1,h.lo.2.1,Nat.le_trans h.lo.2.2 hg.size⟩
theorem Chg.one {g:Nat} {w w':World} (h:w.grownBy w' (some g)):Chg [g] w w':=(Chg.refl _ _).grown h (fun k hk=>by injection hk with hk;subst hk;exact .inl (by simp))
theorem seeX_F {C:Int→Option BV} (hC:byL C=X.C) {a:Int} {l:L8} (h:seeX X Bs a=some l):∃ x,seeF C (srcF Bs) a=some x∧x.l=l:=by
  unfold seeX at h;rw [← hC] at h;unfold seeF;unfold byL at h
  cases hx:C a with
  | some x=>
    rw [hx] at h;simp only [Option.map_some,Option.some.injEq] at h;exact ⟨x,rfl,h⟩
  | none=>
    rw [hx] at h;simp only [Option.map_none] at h;obtain ⟨x,h1,h2⟩:=Option.map_eq_some_iff.1 h;exact ⟨x,h1,h2⟩
end
/- Package inode:how many blocks a size goes through. No conditions but those named. -/
theorem wr_nat (m:Nat) (h:m<9223372036854775808):IntKind.i64.wrap (m:Int)=(m:Int):=by rw [Zg];omega
theorem wr64_nat (m:Nat) (h:m<9223372036854775808):wrap64 (m:Int)=(m:Int):=by unfold wrap64;omega
def blks (z:Int):Int:=if z≤0 then 0 else (z - 1) / 256+1
theorem blocks_any (z:Int) (h:z<9223372036854775808) (w:World):Calls Tryz.prog 51 #[.int .i64 z] w fun e w'=>e=.returned (.int .i64 (blks z))∧w=w':=by
  by_cases h0:z≤0
  · have hb:blks z=0:=by unfold blks;rw [if_pos h0]
    rw [hb];clear hb;go_enter Tryz.func51,Tryz.ntmps51;go_wp2;go_ret;exact ⟨rfl,rfl⟩
  · have hb:blks z=(z - 1) / 256+1:=by unfold blks;rw [if_neg h0]
    rw [hb];obtain ⟨m,hm⟩:∃ m:Nat,z - 1=(m:Int):=⟨(z - 1).toNat,by omega⟩;obtain ⟨q,hq⟩:∃ q:Nat,m / 256=q:=⟨_,rfl⟩;have hzm:z=(m:Int)+1:=by omega
    have hd:((m:Int)) / 256=(q:Int):=by omega
    have hmb:m<9223372036854775807:=by omega
    have hqb:q+1<9223372036854775808:=by omega
    rw [hm,hd];clear hb hm hq h h0;subst hzm;have h7:(m:Int)+1 - 1=(m:Int):=Int.add_sub_cancel _ _;have h1:IntKind.i64.wrap ((m:Int)+1 - 1)=(m:Int):=by rw [h7];exact wr_nat m (by omega)
    have h2:Int.tdiv (m:Int) 256=(q:Int):=by rw [Int.tdiv_eq_ediv_of_nonneg (Int.natCast_nonneg m)];exact hd
    have h3:wrap64 (q:Int)=(q:Int):=wr64_nat q (by omega);have h4:IntKind.i64.wrap (q:Int)=(q:Int):=wr_nat q (by omega);have h5:IntKind.i64.wrap ((q:Int)+1)=(q:Int)+1:=wr_nat (q+1) hqb;have h6:wrap64 ((m:Int)+1 - 1)=(m:Int):=by rw [h7];exact wr64_nat m (by omega)
    have h8:wrap64 (m:Int)=(m:Int):=wr64_nat m (by omega);have h9:IntKind.i64.wrap (m:Int)=(m:Int):=wr_nat m (by omega);have h0:¬ ((m:Int)+1≤0):=by omega
    clear hmb hqb hd;go_enter Tryz.func51,Tryz.ntmps51;go_wp2;go_ret;exact ⟨rfl,rfl⟩
/- Files:which bytes may be,the blocks they come to,and rows of slots. Conditions:those named. -/
theorem may_ok (o c:Nat) (h:o+c≤32768) (w:World):Calls Tryz.prog 45 #[.int .i64 (o:Int),.int .i64 (c:Int)] w fun e w'=>e=.returned (.bool true)∧w=w':=by
  have h1:(0:Int)≤(o:Int):=by omega
  have h2:(0:Int)≤(c:Int):=by omega
  have h3:IntKind.i64.wrap ((32768:Int) - (o:Int))=32768 - (o:Int):=by rw [Zg];omega
  have h4:(c:Int)≤32768 - (o:Int):=by omega
  clear h;go_enter Tryz.func45,Tryz.ntmps45;go_wp2;go_ret;exact ⟨rfl,rfl⟩
theorem blks_nat (z:Nat) (h:1≤z):blks (z:Int)=(((z - 1) / 256+1:Nat):Int):=by
  unfold blks;rw [if_neg (by omega)];omega
theorem span_ok (o c:Nat) (hc:1≤c) (h:o+c≤32768) (w:World):Calls Tryz.prog 46 #[.int .i64 (o:Int),.int .i64 (c:Int)] w fun e w'=>e=.returned (.tuple #[.int .i64 ((o / 256:Nat):Int),.int .i64 (((o+c - 1) / 256+1:Nat):Int)])∧w=w':=by
  have h1:IntKind.i64.wrap ((o:Int)+(c:Int))=((o+c:Nat):Int):=by rw [Zg];omega
  have HB:=Za (p:=∀ w,Calls Tryz.prog 51 #[.int .i64 ((o+c:Nat):Int)] w fun e w'=>e=.returned (.int .i64 (((o+c - 1) / 256+1:Nat):Int))∧w=w') (fun w=>by
    have:=blocks_any ((o+c:Nat):Int) (by omega) w;rw [blks_nat _ (by omega)] at this;exact this)
  obtain ⟨q,hq⟩:∃ q,o / 256=q:=⟨_,rfl⟩;obtain ⟨p,hp⟩:∃ p,(o+c - 1) / 256+1=p:=⟨_,rfl⟩;obtain ⟨m,hm⟩:∃ m,o+c=m:=⟨_,rfl⟩
  have h2:wrap64 ((o:Int) / 256)=(q:Int):=by
    have e:(o:Int) / 256=(q:Int):=by rw [← hq];omega
    rw [e];exact wr64_nat q (by omega)
  rw [hp,hm] at HB;rw [hm] at h1;rw [hq,hp];clear h hc hq hp hm;go_enter Tryz.func46,Tryz.ntmps46;go_wp2_with (go_at_call 51;refine (HB.out _).mono ?_;rintro e w4 ⟨rfl,rfl⟩);go_ret2;exact ⟨rfl,rfl⟩
theorem inl_add (a b:Nat) (f:Nat→Int):inl (a+b) f=inl a f++inl b (fun j=>f (a+j)):=by
  unfold inl;rw [List.range_add,List.map_append,List.map_map];rfl
theorem inl_split (f:Nat→Int):inl 128 f=inl 16 f++inl 112 (fun j=>f (16+j)):=inl_add 16 112 f
section
variable {P:Program} {ops:Array Oper} {rest:List Oper} {o:Oper} {a:Act} {w:World} {Q:Exit→Act→World→Prop} {K:Act→World→Prop}
theorem run_copy_part (w:World) (dT sT ty elem:TypeId) (hu:P.underlying dT=some (.slice elem)) (hs:(P.info? elem).map (·.size)=some 1) {g off dLen dCap:Nat} {t:TypeId} {A old cs B:List Value} (hr:Row w g t (A++(old++B))) (ha:A.length=off) (hl:old.length=cs.length)
    (ad:Addr) (sLen sCap:Nat) (hn:cs.length=Nat.min sLen dLen) (hsrc:∀ j v,cs[j]?=some v→w.cell? (ad.add j)=some v) (h1:∀ v ∈ cs,v.oneCell'=true):
    ∃ w',(Builtin.copy_ #[dT,sT] ty #[.slice (some ⟨g,off,none⟩) dLen dCap,.slice (some ad) sLen sCap]).run P w=.ok (goInt cs.length) w'∧Row w' g t (A++(cs++B))∧w.grownBy w' (some g):=by
  have ht:=hr.is_there off cs.length (by subst ha;simp;omega);exact ⟨_,run_copy_cells w dT sT ty elem g off dLen dCap ad sLen sCap cs hu hs hn hsrc (fun j hj=>(ht j hj).1) (fun j hj=>(ht j hj).2) h1,row_store hr ha hl,grown_sets g cs off w⟩
theorem k_copy_part (d s:Operand) (dT sT:TypeId) (ho:o.op=.call { callee:=.builtin .copy,args:=#[d,s],argTypes:=#[dT,sT] }) (elem:TypeId) (hu:P.underlying dT=some (.slice elem)) (hs:(P.info? elem).map (·.size)=some 1)
    (g off dLen dCap:Nat) (hd:a.eval d=.slice (some ⟨g,off,none⟩) dLen dCap) (t:TypeId) (A old cs B:List Value) (hr:Row w g t (A++(old++B))) (ha:A.length=off) (hl:old.length=cs.length)
    (ad:Addr) (sLen sCap:Nat) (hx:a.eval s=.slice (some ad) sLen sCap) (hn:cs.length=Nat.min sLen dLen) (hsrc:∀ j v,cs[j]?=some v→w.cell? (ad.add j)=some v) (h1:∀ v ∈ cs,v.oneCell'=true)
    (h:∀ w',Row w' g t (A++(cs++B))→w.grownBy w' (some g)→K (a.put o.dst (goInt cs.length)) w'):Oper.wp P o a w K Q:=by
  obtain ⟨w',hrun,h2,h3⟩:=run_copy_part (P:=P) w dT sT o.type elem hu hs hr ha hl ad sLen sCap hn hsrc h1 (dCap:=dCap);unfold Oper.wp execOp;simp only [ho,resolve,invoke,builtin,Sem.run_bind,Sem.run_pure,Zw,List.map_toArray,List.map_cons,List.map_nil,hd,hx,hrun];exact h w' h2 h3
end
theorem row_src_at {w:World} {g off:Nat} {t:TypeId} {A M B:List Value} (h:Row w g t (A++(M++B))) (ha:A.length=off):∀ j v,M[j]?=some v→w.cell? ((⟨g,off,none⟩:Addr).add j)=some v:=fun j v hv=>by
  rw [Addr.add_lit];exact h.rng ha j v hv
theorem info_row:(Tryz.prog.info? 99).map (·.size)=some 128:=by kernel_rfl
theorem info_rows (f:Nat→Int):(Tryz.prog.info? 99).map (·.size)=some (inl 128 f).length:=by rw [inl_len];exact info_row
theorem zero_row (w:World):(zeroValue 99).run Tryz.prog w=.ok (.agg (inl 128 ino0).toArray) w:=by kernel_rfl
theorem list_any (R:Nat→Int) (w:World):Calls Tryz.prog 88 #[.agg (inl 128 R).toArray] w fun e w'=>e=.returned (.agg (inl 112 fun j=>R (16+j)).toArray)∧Below w.heap.size w w':=by
  have i1:=Za info_rows;have i2:=Za info_inl;have i3:=Za info_int;have hz:=Za zero_112;obtain ⟨L,hL⟩:∃ L:Nat→Int,(fun j=>R (16+j))=L:=⟨_,rfl⟩;have HSP:=Za (p:=inl 128 R=inl 16 R++(inl 112 L++[])) (by rw [← hL,Zy];exact inl_split R);rw [hL];clear hL;go_enter Tryz.func88,Tryz.ntmps88
  go_wp2_with (first
    | (refine step_box rfl 1 rfl 99 (.tmp 0) rfl (inl 128 R) rfl ?_;intro g1 w2 hr2 hg2 hb2 hs2;have HR12:=Za hr2
       have HB2:=Za hb2;have HG1:=Za (p:=w.heap.size≤g1) (Nat.le_of_eq hg2.out.symm);clear hr2 hg2 hb2 hs2)
    | (refine step_alloc rfl 2 rfl 146 rfl _ hz.out ?_;intro g2 w3 hr2 hg2 hb2 hs2;have HR23:=Za hr2
       have HR13:=Za (HR12.out.kept hb2);have HB3:=Za (below_nxt hb2 HB2.out);have HG2:=Za (p:=w.heap.size≤g2∧g1<g2) (by rw [hg2.out];exact ⟨HB2.out.size,HR12.out.lt⟩);clear hr2 hg2 hb2 hs2;have MK:=trivial)
    | (clear MK;refine step_alloc rfl 3 rfl 146 rfl _ hz.out ?_;intro g3 w4 hr2 hg2 hb2 hs2;have HR34:=Za hr2
       have HR14:=Za (HR13.out.kept hb2);have HR24:=Za (HR23.out.kept hb2);have HB4:=Za (below_nxt hb2 HB3.out);have HG3:=Za (p:=w.heap.size≤g3∧g1<g3∧g2<g3) (by rw [hg2.out];exact ⟨HB3.out.size,HR13.out.lt,HR23.out.lt⟩);clear hr2 hg2 hb2 hs2))
  refine Zq (S:=fun _=>True) (by kernel_rfl) trivial (fun hHeld=>?_);refine Ze (i:=0) (oi:=⟨some 4,.slice 146 (.tmp 3) none none none,_,_,_,_⟩) (v:=.slice (some ⟨g3,0,none⟩) 112 112) rfl (by kernel_rfl) (by kernel_rfl) (by kernel_rfl) (fun _ _ _ h=>h) (.inl ⟨by rfl,fun w hSw=>by go_simp⟩) (by assumption) ?_;simp only [Act.put,Zb,Zc,Zd];refine Ze (i:=1) (oi:=⟨some 5,.slice 99 (.tmp 1) (some (Operand.const (Value.int IntKind.i64 16))) none none,_,_,_,_⟩) (v:=.slice (some ⟨g1,16,none⟩) 112 112) rfl (by kernel_rfl) (by kernel_rfl) (by kernel_rfl) (fun _ _ _ h=>h) (.inl ⟨by rfl,fun w hSw=>by go_simp⟩) (by assumption) ?_;simp only [Act.put,Zb,Zc,Zd];refine Zp (rs:=[2]) (by kernel_rfl) (by simp) ?_;refine Zl (o:=⟨some 6,.call ⟨.builtin .copy,#[.tmp 4,.tmp 5],#[114,114]⟩,_,_,_,_⟩) rfl (fun K hK=>?_) Zo;refine k_copy_part (.tmp 4) (.tmp 5) 114 114 rfl 3 Tryz.underlying114 i3.out g3 0 112 112 (by rfl) 146 [] (inl 112 ino0) (inl 112 L) [] (by simpa using HR34.out.drew) rfl (by rw [inl_len,inl_len]) ⟨g1,16,none⟩ 112 112 (by rfl) (by rw [inl_len];rfl) (row_src_at (by have h:=HR14.out.drew;rw [HSP.out] at h;exact h) (by rw [inl_len])) (inl_one _ _) ?_;intro w5 hr5 hg5;have HR35:=Za (p:=Row w5 g3 146 (inl 112 L)) (by simpa using hr5);have HB5:=Za (p:=Below w.heap.size w w5) (below_own (Below.trans HB4.out (below_drw w4 |>.mono HB4.out.size)) hg5 HG3.out.1);have HR25:=Za (HR24.out.drew.grown hg5 (fun e=>by have:=HG3.out;injection e;omega));clear hr5 hg5;refine hK.out _ _ trivial (fun _hH=>?_);clear hK K;refine Yg (by kernel_rfl) ?_ _
  go_wp2_with (first
    | (refine step_load rfl 7 rfl 146 (.tmp 3) rfl g3 rfl (inl 112 L) _ HR35.out.all Tryz.underlying146 rfl (i2.out _) ?_)
    | (refine step_store rfl 146 (.tmp 2) (.tmp 7) rfl g2 (by rfl) _ _ (inl 112 L) (by rfl) HR25.out (by rw [inl_len,inl_len]) (i2.out _) (inl_one _ _) ?_;intro w9 hr9 hg9 hs9))
  refine Yd (results_cell_row rfl _ _ g2 _ _ _ _ rfl hr9 Tryz.underlying146 rfl (by simpa using i2.out L)) rfl ?_;exact ⟨rfl,below_own HB5.out hg9 HG2.out.1⟩
/- Where a desk's call begins. Conditions:the desk lies there. -/
section
variable {b:Nat} {w w':World} {gd gv gm gs r:Nat} {Bs:List BV} {N n:Nat} {X:DX} {g1:Nat} {la:Int} {dl:List Value}
theorem going1_any (p:Int × BV) (w:World) (h1:w.cell? ⟨g1,0,none⟩=some (.pointer (some ⟨gd,0,none⟩))) (h2:w.cell? ⟨gd,1553,none⟩=some (.int .i64 la)):
    Calls Tryz.prog 101 #[.agg (pcs p).toArray,.pointer (some ⟨g1,0,none⟩)] w fun e w'=>(∃ z,e=.returned (.bool z))∧Hid (Below w.heap.size w w'):=by
  have i2:(Tryz.prog.info? 159).map (·.size)=some 2:=by kernel_rfl
  have l1:=Ya w _ h1;have l2:=Ya w _ h2;obtain ⟨s,y⟩:=p;have HX:=Za (p:=g1<w.heap.size∧gd<w.heap.size) ⟨l1,l2⟩;have H1:=Za h1;have H2:=Za h2;clear h1 h2 l1 l2;go_enter Tryz.func101,Tryz.ntmps101
  go_wp2_with (first
    | (refine step_box rfl 2 rfl 159 (.tmp 0) rfl (pcs (s,y)) rfl ?_;intro g2 w2 hr2 hg2 hb2 hs2;have c0:w2.cell? ⟨g2,0,none⟩=some (.int .i64 s):=(hr2.cell 0).trans rfl
       have c1:w2.cell? ⟨g1,0,none⟩=some (.pointer (some ⟨gd,0,none⟩)):=(hb2.cell (p:=⟨g1,0,none⟩) HX.out.1).trans H1.out;have c2:w2.cell? ⟨gd,1553,none⟩=some (.int .i64 la):=(hb2.cell (p:=⟨gd,1553,none⟩) HX.out.2).trans H2.out;have HB2:=Za hb2;clear hr2 hg2 hb2 hs2))
  go_region;go_wp2;go_ret;exact ⟨⟨_,rfl⟩,Za HB2.out.drew⟩
theorem index_any {A:Option Addr} {c:Nat} {ps:List (Int × BV)} (hp:PutsAt w A ps) (h1:w.cell? ⟨g1,0,none⟩=some (.pointer (some ⟨gd,0,none⟩))) (h2:w.cell? ⟨gd,1553,none⟩=some (.int .i64 la)):
    Calls Tryz.prog 126 #[.slice A ps.length c,.func (.func 101) #[] #[.pointer (some ⟨g1,0,none⟩)]] w fun e w'=>(∃ z,e=.returned (.int .i64 z))∧Hid (Below w.heap.size w w'):=by
  have i2:=Za (p:=(Tryz.prog.info? 159).map (·.size)=some 2) (by kernel_rfl);have HP:=Za hp;have hlim:=hp.lim;have HL:=Za hlim;have HX:=Za (p:=g1<w.heap.size∧gd<w.heap.size) ⟨Ya w _ h1,Ya w _ h2⟩;have H1:=Za h1;have H2:=Za h2;clear hp h1 h2 hlim;go_enter Tryz.func126,Tryz.ntmps126;go_wp2;go_loopw [8] (fun x wr=>∃ k:Nat,Hid (k≤ps.length)∧x=.int .i64 (k:Int)∧Hid (Below w.heap.size w wr)) (fun x _=>ps.length - (intOf x).toNat)
  case atStart=>exact ⟨0,Za (Nat.zero_le _),rfl,Za (Below.refl _ _)⟩
  case round=>
    obtain ⟨k,HK,rfl,HB⟩:=hrel;by_cases hk:k<ps.length
    · have hki:(k:Int)<(ps.length:Int):=by omega
      obtain ⟨g,o,rfl,hc⟩:=(HP.out.lies.below HB.out).at_ hk
      obtain ⟨x,hx⟩:∃ x,ps[k]'hk=x:=⟨_,rfl⟩;rw [hx] at hc;have hr:wr.rangeAt g (o+k*2) (pcs x):=fun i u hu=>hc i u hu;have HR:=Za hr;have hkw:IntKind.i64.wrap ((k:Int)+1)=(k:Int)+1:=by rw [Zg];have:=HL.out;omega
      have HG:=Za (going1_any (g1:=g1) (gd:=gd) (la:=la) x wr ((HB.out.cell (p:=⟨g1,0,none⟩) HX.out.1).trans H1.out) ((HB.out.cell (p:=⟨gd,1553,none⟩) HX.out.2).trans H2.out));have HKK:=Za hk;clear hc hx hr hk
      go_wp2_with (first
        | (refine wpList_load_mid rfl 159 (.tmp 14) rfl g (o+k*2) (by rfl) (pcs x) _ HR.out Tryz.underlying159 rfl i2.out ?_)
        | (go_at_call 101;refine HG.out.mono ?_;rintro e w4 ⟨⟨z,rfl⟩,hb⟩;cases z))
      · have HB4:=Za (below_nxt hb.out HB.out);clear hb;go_wp2;go_roundw
        case rel=>exact ⟨k+1,HKK,by go_num,HB4⟩
        case measure=>have:=HKK.out;simp [intOf];omega
      · have HB4:=Za (below_nxt hb.out HB.out);clear hb;go_wp2;go_ret;exact ⟨⟨_,rfl⟩,HB4⟩
    · have hkz:¬ (k:Int)<(ps.length:Int):=by omega
      clear hk;go_wp2;go_ret;exact ⟨⟨_,rfl⟩,HB⟩
theorem contains_any {A:Option Addr} {c:Nat} {ps:List (Int × BV)} (hp:PutsAt w A ps) (h1:w.cell? ⟨g1,0,none⟩=some (.pointer (some ⟨gd,0,none⟩))) (h2:w.cell? ⟨gd,1553,none⟩=some (.int .i64 la)):
    Calls Tryz.prog 99 #[.slice A ps.length c,.func (.func 101) #[] #[.pointer (some ⟨g1,0,none⟩)]] w fun e w'=>(∃ z,e=.returned (.bool z))∧Hid (Below w.heap.size w w'):=by
  have HI:=Za (index_any (c:=c) hp h1 h2);clear hp h1 h2;go_enter Tryz.func99,Tryz.ntmps99;go_wp2_with (go_at_call 126;refine HI.out.mono ?_;rintro e w4 ⟨⟨z,rfl⟩,hb⟩);go_ret;exact ⟨⟨_,rfl⟩,hb⟩
theorem going_any (h:DK b w gd gv gm gs r Bs N n X) (hn:n≤3000):Calls Tryz.prog 62 #[.pointer (some ⟨gd,0,none⟩)] w fun e w'=>(∃ z,e=.returned (.bool z))∧Hid (Below w.heap.size w w'):=by
  obtain ⟨ah,la,e1,e2,hd⟩:=h.desk;obtain ⟨C,hv,_⟩:=h.view;have HV:=Za hv;have HD:=Za hd;have HN:=Za hn;have HL:=Za (p:=∀ W,Below w.heap.size w W→W.cell? ⟨gd,1553,none⟩=some (.int .i64 la)) (fun W hb=>((hd.kept hb).cell 1553).trans (dcs_la (bkcs_len _ _ _) e1));have hmf:∀ (fn:Fn) (first cap:Array Value) (w:World),(Instr.makeFunc fn first cap).run Tryz.prog w=.ok (.func fn first cap) w:=fun _ _ _ _=>rfl;clear h hv hd hn;go_enter Tryz.func62,Tryz.ntmps62
  go_wp2_with (first
    | (refine step_box1 rfl 32 _ rfl (.pointer (some ⟨gd,0,none⟩)) rfl rfl ?_;intro g2 w2 hr2 hg2 hb2;have R2:=Za hr2
       have HB2:=Za hb2;have c1:w2.cell? ⟨g2,0,none⟩=some (.pointer (some ⟨gd,0,none⟩)):=(hr2.cell 0).trans rfl;have c0:w2.cell? ⟨gd,0,none⟩=some (.pointer (some ⟨gv,0,none⟩)):=((HD.out.kept hb2).cell 0).trans rfl;clear hr2 hg2 hb2)
    | (go_at_call 100;refine (vchanges (HV.out.below HB2.out) HN.out).mono ?_;rintro e w3 ⟨ps,A,c,rfl,hc,hp,hb⟩;have HP3:=hp
       have HB3:=Za (below_nxt hb.out HB2.out);have HC3:=Za (p:=w3.cell? ⟨g2,0,none⟩=some (.pointer (some ⟨gd,0,none⟩))) (((R2.out.kept hb.out).cell 0).trans rfl);clear hc hp hb)
    | (go_at_call 99;refine (contains_any HP3.out HC3.out (HL.out _ HB3.out)).mono ?_;rintro e w4 ⟨⟨z,rfl⟩,hb⟩;have HB4:=Za (below_nxt hb.out HB3.out)
       clear hb))
  go_ret;exact ⟨⟨_,rfl⟩,HB4⟩
theorem dbegin (h:DK b w gd gv gm gs r Bs N n X) (hn:n≤3000):Calls Tryz.prog 27 #[.pointer (some ⟨gd,0,none⟩)] w fun e w'=>e=.returned (.tuple #[])∧Hid (DK b w' gd gv gm gs r Bs N n X)∧Hid (Chg [gd] w w'):=by
  have HG:=Za (going_any h hn);obtain ⟨ah,la,e1,e2,hd⟩:=h.desk;have cw:w.cell? ⟨gd,1552,none⟩=some (.bool false):=(hd.cell 1552).trans (dcs_wt (bkcs_len _ _ _) e1);have H:=Za h;have HD:=Za hd;have i1:=Za info_bkcs;obtain ⟨bk,hbk⟩:∃ bk,bkcs X.rd X.S X.S0=bk:=⟨_,rfl⟩;have HBK:=Za hbk;have HL:=Za (p:=bk.length=775∧(∀ v ∈ bk,v.oneCell'=true)) (by rw [← hbk];exact ⟨bkcs_len _ _ _,bkcs_one _ _ _⟩);rw [hbk] at HD;have HE:=Za (p:=ah.length=775∧∀ v ∈ ah,v.oneCell'=true) ⟨e1,e2⟩;clear h hd hn e1 e2 hbk;go_enter Tryz.func27,Tryz.ntmps27
  go_wp2_with (first
    | (go_at_call 62;refine HG.out.mono ?_;rintro e w2 ⟨⟨z,rfl⟩,hb⟩;have HD2:=Za (HD.out.kept hb.out)
       have HB2:=hb;clear hb;cases z)
    | (refine step_load_at rfl 78 (.tmp 24) rfl gd 2 (by rfl) 80 (dhd gv N) bk (ah++dtl false la) _ HD2.out rfl Tryz.underlying78 rfl (i1.out _ HL.out.1) ?_)
    | (refine step_store_at rfl 78 (.tmp 27) (.tmp 25) rfl gd 777 (by rfl) 80 (dhd gv N++bk) ah bk (dtl false la) (by rfl) (by rw [← dcs_ah];exact HD2.out) (by simp [dhd,HL.out.1]) (by rw [HE.out.1,HL.out.1]) (i1.out _ HL.out.1) HL.out.2 ?_;intro w3 hr3 hg3
       have HR3:=Za hr3;have HG3:=Za hg3;clear hr3 hg3))
  · go_end0;have hr:=HR3.out;rw [← dcs_ah] at hr;have hC:Chg [gd] w w3:=(Chg.of HB2.out).trans (Chg.one HG3.out) (fun x hx=>.inl hx);exact ⟨rfl,Za (H.out.own (X':=X) (by rw [HBK.out];exact hr) HL.out.1 HL.out.2 rfl hC),Za hC⟩
  · go_end0;exact ⟨rfl,Za (H.out.below HB2.out),Za (Chg.of HB2.out)⟩
end
/- A desk:what it sees of a slot,what it puts,its book read. Conditions:the desk lies there. -/
theorem row_own8 {w:World} {g b:Nat} {l:L8} (h:Row w g 5 (bc l)) (hb:b≤g) (hl:l.length≤maxLen):Own8 b w ⟨some ⟨g,0,none⟩,l.length,l⟩:=
  ⟨by rw [bc_len,Nat.mul_one],.inr ⟨g,l.length,_,rfl,hb,h,Zj _,hl,by simp [bc_len],by simp [bc_len,Zz]⟩⟩
theorem brr0_bc (n:Nat):brr n (fun _=>0)=bc (List.replicate n 0):=by
  rw [lst_bc];unfold lst;congr 1;apply List.ext_getElem?;intro j;rw [List.getElem?_replicate,List.getElem?_map];by_cases hj:j<n
  · rw [if_pos hj,List.getElem?_range hj];rfl
  · rw [if_neg hj,List.getElem?_eq_none (by simp;omega)];rfl
theorem norm_nil:norm []=List.replicate 256 0:=if_pos rfl
theorem norm_some {l:L8} (h:l≠[]):norm l=l:=if_neg h
section
variable {b:Nat} {w w':World} {gd gv gm gs r:Nat} {Bs:List BV} {N n:Nat} {X:DX}
def DSee (b:Nat) (w:World) (gd gv gm gs r:Nat) (Bs:List BV) (N n:Nat) (X:DX) (l:L8) (e:Ending) (w':World):Prop:=
  ∃ y:BV,e=.returned (.slice y.A y.l.length y.c)∧Hid (y.l=l)∧Hid (Own8 w.heap.size w' y)∧Hid (DK b w' gd gv gm gs r Bs N n X)∧Hid (Chg [gd] w w')
theorem dsee (h:DK b w gd gv gm gs r Bs N n X) (a:Int) (ha:I64 a) (l:L8) (hl:seeX X Bs a=some l) (hlen:l.length≤3000):Calls Tryz.prog 34 #[.pointer (some ⟨gd,0,none⟩),.int .i64 a] w (DSee b w gd gv gm gs r Bs N n X (norm l)):=by
  obtain ⟨i,U⟩:=u8_tab;obtain ⟨ah,la,e1,e2,hd⟩:=h.desk;obtain ⟨C,hv,hC⟩:=h.view;obtain ⟨x,hx,hxl⟩:=seeX_F hC hl;have c0:w.cell? ⟨gd,0,none⟩=some (.pointer (some ⟨gv,0,none⟩)):=hd.cell 0;have cw:w.cell? ⟨gd,1552,none⟩=some (.bool false):=(hd.cell 1552).trans (dcs_wt (bkcs_len _ _ _) e1);have fw:=hd.free 1552
  have hd1:Row (w.setCell ⟨gd,1552,none⟩ (.bool true)) gd 80 (dcs gv N (bkcs X.rd X.S X.S0) ah true la):=by
    have h1:=hd.put 1552 (.bool true);rwa [dcs_set_wt (bkcs_len _ _ _) e1] at h1
  have hc1:Chg [gd] w (w.setCell ⟨gd,1552,none⟩ (.bool true)):=(Chg.refl _ _).setCell (.inl (by simp)) _;obtain ⟨n1,n2,n3,n4,n5,n6⟩:=h.ne
  have hN:NoBytes w [gd]:=fun x hx cs fr=>by
    rw [Zr] at hx;subst hx;exact row_noB hd (by decide) _ _
  have hv1:=hv.keepN hc1 (by simp;exact n1.symm) (by simp;exact n2.symm) hN;have hs1:Src b (w.setCell ⟨gd,1552,none⟩ (.bool true)) gs Bs:=h.src.keep (hc1.below h.lo.2.2 (fun x hx=>by rw [Zr] at hx;subst hx;exact h.lo.1));have HS:=Za (vsee hv1 hs1 a ha x hx);have HD1:=Za hd1;have HC1:=Za hc1;have H:=Za h;have HE:=Za (p:=ah.length=775∧(∀ v ∈ ah,v.oneCell'=true)) ⟨e1,e2⟩;have HXL:=Za (p:=x.l=l∧l.length≤3000) ⟨hxl,hlen⟩;clear h hd hd1 hc1 hv1 hs1 hN n1 n2 n3 n4 n5 n6 hv hC hx hl ha e1 e2 hxl hlen;go_enter Tryz.func34,Tryz.ntmps34
  go_wp2_with (first
    | (go_at_call 76;refine HS.out.mono ?_;rintro e w2 ⟨y,rfl,hy,ho,hb⟩;have HD2:=Za (HD1.out.kept hb.out)
       have cw2:w2.cell? ⟨gd,1552,none⟩=some (.bool true):=(HD2.out.cell 1552).trans (dcs_wt (bkcs_len _ _ _) HE.out.1);have fw2:=HD2.out.free 1552;obtain ⟨D,hD⟩:∃ D:Nat,y.l.length=D:=⟨_,rfl⟩;rw [hD];have HDD:=Za hD;have HY:=Za (p:=y.l=l) (hy.out.trans HXL.out.1);have HO:=ho;have HB:=hb
       obtain ⟨z,hz,HZ⟩:∃ z:Bool,((D:Int)==0)=z∧Hid (z=true∧D=0∨z=false∧0<D):=by
         rcases Nat.eq_zero_or_pos D with h0 | h0
         · exact ⟨true,by rw [h0];rfl,Za (.inl ⟨rfl,h0⟩)⟩
         · exact ⟨false,beq_false_of_ne (by omega),Za (.inr ⟨rfl,h0⟩)⟩
       clear hD hy ho hb cw fw c0;cases z)
    | (refine step_make rfl _ _ 23 5 i U rfl 256 rfl rfl (by decide) ?_;intro g4 w4 hr4 hg4 hb4 hs4
       have HR4:=Za hr4;have HB4:=Za hb4;have HG4:=Za hg4;clear hr4 hg4 hb4 hs4))
  · have hr:=HD2.out.put 1552 (.bool false);rw [dcs_set_wt (bkcs_len _ _ _) HE.out.1] at hr;have hc0:Chg [gd] w2 (w2.setCell ⟨gd,1552,none⟩ (.bool false)):=(Chg.refl _ _).setCell (.inl (by simp)) _;have hc:Chg [gd] w (w2.setCell ⟨gd,1552,none⟩ (.bool false)):=(HC1.out.trans (Chg.of (F:=[]) HB.out) (by simp)).setCell (.inl (by simp)) _;have hk:=H.out.own (X':=X) hr HE.out.1 HE.out.2 rfl hc
    have hl0:l≠[]:=fun e=>by
      have h1:=HDD.out;rw [HY.out,e] at h1;simp at h1;rcases HZ.out with ⟨h2,_⟩ | ⟨_,h2⟩
      · cases h2
      · omega
    have ho:Own8 w.heap.size (w2.setCell ⟨gd,1552,none⟩ (.bool false)) y:=(HO.out.chg hc0 (fun x hx cs fr=>by
      rw [Zr] at hx;subst hx;exact row_noB HD2.out (by decide) _ _)).lower HC1.out.size
    go_ret;refine ⟨y,(by rw [HDD.out];rfl),Za (by rw [HY.out,norm_some hl0]),Za ho,Za hk,Za hc⟩
  · have hr:=HD2.out.put 1552 (.bool false);rw [dcs_set_wt (bkcs_len _ _ _) HE.out.1] at hr;have hc:Chg [gd] w (w2.setCell ⟨gd,1552,none⟩ (.bool false)):=(HC1.out.trans (Chg.of (F:=[]) HB.out) (by simp)).setCell (.inl (by simp)) _;have hk:=H.out.own (X':=X) hr HE.out.1 HE.out.2 rfl hc;have hl0:l=[]:=by rw [← HY.out];exact Zk (by rw [HDD.out];rcases HZ.out with ⟨_,h2⟩ | ⟨h2,_⟩;exact h2;cases h2)
    go_ret;refine ⟨⟨some ⟨g4,0,none⟩,256,List.replicate 256 0⟩,rfl,Za (by rw [hl0,norm_nil]),Za ?_,Za (hk.below HB4.out),Za (hc.trans (Chg.of (F:=[]) HB4.out) (by simp))⟩;have h1:=HR4.out;rw [brr0_bc] at h1;have h2:=row_own8 (b:=w.heap.size) h1 (by rw [HG4.out.out];exact hc.size) (by decide);simpa using h2
def DPut (b:Nat) (w:World) (gd gv gm gs r:Nat) (Bs:List BV) (N n:Nat) (X:DX) (e:Ending) (w':World):Prop:=
  e=.returned (.tuple #[])∧Hid (DK b w' gd gv gm gs r Bs N n X)∧Hid (Chg [gd,gm] w w')
def DX.put (X:DX) (a:Int) (l:L8):DX:=⟨X.rd,X.S,X.S0,upS X.C a l⟩
theorem dput (h :DK b w gd gv gm gs r Bs N n X) (x:BV) (hx:Hol w x.A x.l) (hl:x.l.length≤131072) (a:Int) (ha:I64 a) (hn:n≤3000):
    Calls Tryz.prog 31 #[.pointer (some ⟨gd,0,none⟩),.int .i64 a,.slice x.A x.l.length x.c] w (DPut b w gd gv gm gs r Bs N (n+1) (X.put a x.l)):=by
  obtain ⟨ah,la,e1,e2,hd⟩:=h.desk;obtain ⟨C,hv,hC⟩:=h.view;have c0:w.cell? ⟨gd,0,none⟩=some (.pointer (some ⟨gv,0,none⟩)):=hd.cell 0;have HP:=Za (vput hv h.lo.2.2 x hx hl a ha (by omega));have H:=Za h;have HD:=Za hd;have HC:=Za hC;have HE:=Za (p:=ah.length=775∧(∀ v ∈ ah,v.oneCell'=true)) ⟨e1,e2⟩;have HNE:=Za h.ne;clear h hd hv hC hx hl ha e1 e2 hn;go_enter Tryz.func31,Tryz.ntmps31
  go_wp2_with (go_at_call 71;refine HP.out.mono ?_;rintro e w2 ⟨rfl,y,hy,hoy,hv2,hc⟩;have HD2:=Za (hc.out.row HD.out (by have:=HNE.out.2.1;simpa using this))
               have cw2:w2.cell? ⟨gd,1553,none⟩=some (.int .i64 la):=(HD2.out.cell 1553).trans (dcs_la (bkcs_len _ _ _) HE.out.1);have fw2:=HD2.out.free 1553;have HV2:=hv2;have HY:=hy;have HCH:=hc;clear hy hoy hv2 hc c0)
  go_end0;have hr:=HD2.out.put 1553 (.int .i64 a);rw [dcs_set_la (bkcs_len _ _ _) HE.out.1] at hr;obtain ⟨n1,n2,n3,n4,n5,n6⟩:=HNE.out;have hc0:Chg [gd] w2 (w2.setCell ⟨gd,1553,none⟩ (.int .i64 a)):=(Chg.refl _ _).setCell (.inl (by simp)) _
  have hN:NoBytes w2 [gd]:=fun x hx cs fr=>by
    rw [Zr] at hx;subst hx;exact row_noB HD2.out (by decide) _ _
  have hlo:=H.out.lo;have hc1:Chg [gd,gm] w w2:=HCH.out.wider (fun x hx=>.inl (by simp at hx ⊢;exact .inr hx));have hc2:Chg [gd,gm] w (w2.setCell ⟨gd,1553,none⟩ (.int .i64 a)):=hc1.setCell (.inl (by simp)) _;refine ⟨rfl,Za ⟨⟨ah,a,HE.out.1,HE.out.2,hr⟩,⟨_,HV2.out.keepN hc0 (by simp;exact n1.symm) (by simp;exact n2.symm) hN,?_⟩,hc2.row H.out.run (by simp;exact ⟨n3.symm,n6.symm⟩),?_,hlo.1,hlo.2.1,Nat.le_trans hlo.2.2 hc2.size⟩,Za hc2⟩
  · rw [byL_up,HC.out,HY.out];rfl
  · refine H.out.src.keep (hc2.below hlo.2.2 (fun x hx=>?_));obtain ⟨C',hv',_⟩:=H.out.view;simp at hx;rcases hx with rfl | rfl
    · exact hlo.1
    · exact hv'.lo.2
end
end Go.Proofs.YtijffkklhgnknaaGreatDoor
