/- Steps of a walk: a slice built of one record; a record appended to a row of the call's own. No conditions but those named. -/
import Derived.Test.YtijffkklhgnknaaGreatDoorAz
import Derived.Test.YtijffkklhgnknaaGreatDoorEf
set_option maxHeartbeats 20000000
set_option linter.unusedVariables false
set_option maxRecDepth 20000
namespace Go.Proofs.YtijffkklhgnknaaGreatDoor
open Go.RowKit
section
variable {P:Program} {ops:Array Oper} {rest:List Oper} {o:Oper} {a:Act} {w:World} {Q:Exit→Act→World→Prop}
theorem run_bs1 (t e : TypeId) (hu :P.underlying t=some (.slice e)) (k:Nat) (hs:(P.info? e).map (·.size)=some k) (hk:0<k∧k≤1000) (z:Value) (hz:∀ w,(zeroValue e).run P w=.ok z w) (cs:List Value) (hcs:cs.length=k) (w:World):
    (Instr.buildSlice t 1 #[(0,.agg cs.toArray)]).run P w=.ok (.slice (some ⟨w.heap.size,0,none⟩) 1 1) (w.alloc (.cells cs.toArray e)):=by
  have hfill:∀ zs:Array Value,zs.size=k→Instr.fill (fun i=>some (i*k,k)) zs [(0,.agg cs.toArray)]=some cs.toArray:=fun zs hzs=>by
    have h:=fill_part (place:=fun i=>some (i*k,k)) (A:=[]) (old:=zs.toList) (B:=[]) (vs:=cs) (i:=0) (off:=0) (n:=k) (v:=.agg cs.toArray) (rest:=[]) (by simp) rfl hcs rfl (by simpa using hzs);simp only [Zy,Zt,Array.toArray_toList] at h;rw [h];rfl
  cases hq:P.info? e with
  | none=>simp [hq] at hs
  | some i=>
    have hi:i.size=k:=by simpa [hq] using hs
    have h1 : ¬ (2 ^ 24 < k) := by have:(1000:Nat)<2 ^ 24:=by decide
                                   omega
    have h2:¬ k=0:=by omega
    have hf:=hfill ((Array.range k).map (z.cells[· % z.cells.size]!)) (by simp);have hsz:∀ w:World,(sizeOf e).run P w=.ok k w:=size_of hs;clear hq hi;unfold Instr.buildSlice;simp only [Sem.run_bind,run_underlying hu,Zw,hsz,Nat.one_mul,gt_iff_lt,h1,if_false,h2,Sem.run_pure,hz,Sem.run_ite];rw [hf];simp [newRow,go_sem]
theorem step_bs1 (hgd:o.guard=none) (t e:TypeId) (x:Operand) (ho:o.op=.buildSlice t 1 #[(0,x)]) (hu:P.underlying t=some (.slice e)) (k:Nat) (hs:(P.info? e).map (·.size)=some k) (hk:0<k∧k≤1000) (z:Value) (hz:∀ w,(zeroValue e).run P w=.ok z w) (cs:List Value) (hcs:cs.length=k) (hx:a.eval x=.agg cs.toArray)
    (h:∀ g w',Row w' g e cs→Hid (g=w.heap.size)→Below w.heap.size w w'→wpList P ops Q rest (a.put o.dst (.slice (some ⟨g,0,none⟩) 1 1)) w'):wpList P ops Q (o::rest) a w:=by
  refine wpList_plain hgd fun K hK=>?_;have hr:=run_bs1 t e hu k hs hk z hz cs hcs w;unfold Oper.wp execOp;simp only [ho,hx,List.map_toArray,List.map_cons,List.map_nil,Sem.run_bind,hr,Zw];exact hK _ _ (h _ _ (Row.made w e cs) (show _=_ from rfl) ((Below.refl _ _).alloc (Zj _) _))
theorem step_more {t e:TypeId} {k:Nat} (hgd:o.guard=none) (s x:Operand) (ho:o.op=.call { callee:=.builtin .append,args:=#[s,x],argTypes:=#[t,t] }) (hu:P.underlying t=some (.slice e)) (i:TypeInfo) (z:Value) (hi:P.info? e=some i) (hz:i.zero=some z) (hs:i.size=k) (hby:i.bytes≤1024) (hzs:z.cells.size=k) (hk:0<k)
    (base:Nat) (v:Value) (n:Nat) (xs:List Value) (hv:a.eval s=v) (hown:w.ownsRow base e k v n xs) (ad:Addr) (c:Nat) (ys:List Value) (hx:a.eval x=.slice (some ad) 1 c) (hys:ys.length=k) (hc:∀ j u,ys[j]?=some u→w.cell? (ad.add j)=some u) (h1:∀ u ∈ ys,u.oneCell'=true) (hn:n≤3000) (hbase:base≤w.heap.size)
    (h:∀ v' w',w'.ownsRow base e k v' (n+1) (xs++ys)→w.grownBy w' v.ownBlock→(v'.ownBlock=v.ownBlock∨v'.ownBlock=some w.heap.size)→wpList P ops Q rest (a.put o.dst v') w'):wpList P ops Q (o::rest) a w:=by
  refine wpList_plain hgd fun K hK=>?_;obtain ⟨v',w',hr,h2,h3,_,h5⟩:=run_append_own_at (P:=P) w base t o.type e i z k i.bytes hu hi hz hs rfl hzs hk v n xs hown ad 1 c ys (by rw [hys,Nat.one_mul]) hc h1 (by unfold maxLen;omega) (Nat.le_trans (Nat.mul_le_mul (show n+1≤3001 by omega) hby) (by decide)) hbase;unfold Oper.wp execOp;simp only [ho,resolve,invoke,builtin,Sem.run_bind,Sem.run_pure,Zw,List.map_toArray,List.map_cons,List.map_nil,hv,hx,hr];exact hK _ _ (h v' w' h2 h3 h5)
theorem wp_max (hgd:o.guard=none) (s x:Operand) (ts:Array TypeId) (ho:o.op=.call { callee:=.builtin .max,args:=#[s,x],argTypes:=ts })
    (p q m:Int) (hs:a.eval s=.int .i64 p) (hx:a.eval x=.int .i64 q) (hm:(if q > p then q else p)=m) (h:wpList P ops Q rest (a.put o.dst (.int .i64 m)) w):wpList P ops Q (o::rest) a w:=by
  refine wpList_plain hgd fun K hK=>?_;subst hm;unfold Oper.wp execOp;simp only [ho,resolve,invoke,builtin,Sem.run_bind,Sem.run_pure,Zw,List.map_toArray,List.map_cons,List.map_nil,hs,hx,run_max_int2];exact hK _ _ h
end
theorem block_tab:∃ i z,Tryz.prog.info? 110=some i∧i.zero=some z∧i.size=256∧i.bytes≤1024∧z.cells.size=256:=by
  have h:(Tryz.prog.info? 110).map (fun i=>(i.zero.map (·.cells.size),i.size,i.bytes))=some (some 256,256,256):=by kernel_rfl
  cases hq:Tryz.prog.info? 110 with
  | none=>rw [hq] at h;cases h
  | some i=>
    rw [hq] at h;simp only [Option.map_some,Option.some.injEq,Prod.mk.injEq] at h;obtain ⟨h1,h2,h3⟩:=h;obtain ⟨z,hz,hzc⟩:=Option.map_eq_some_iff.1 h1;exact ⟨i,z,rfl,hz,h2,by omega,hzc⟩
theorem info_plans (S:Sup) (R:Nat→Int) (L:Int):(Tryz.prog.info? 106).map (·.size)=some (S.cs++ptl R L).length:=by
  have h:(S.cs++ptl R L).length=516:=by simp [Sup.cs_len,ptl,inl_len]
  rw [h];exact info_plan
theorem zero_plan:∃ it,Tryz.prog.info? 106=some it∧∃ z,it.zero=some z∧z.cells=(sup0.cs++ptl ino0 0).toArray:=by
  have h:(Tryz.prog.info? 106).map (fun it=>it.zero.map (·.cells))=some (some (sup0.cs++ptl ino0 0).toArray):=by kernel_rfl
  cases hi:Tryz.prog.info? 106 with
  | none=>rw [hi] at h;cases h
  | some it=>
    rw [hi] at h;simp only [Option.map_some,Option.some.injEq] at h;obtain ⟨z,h1,h2⟩:=Option.map_eq_some_iff.1 h;exact ⟨it,rfl,z,h1,h2⟩
theorem places_plan:(Tryz.prog.fieldsOf 106).toList.mapM (fun f=>(Tryz.prog.info? f.type).map fun i=>(f.offset,i.size))=some [(0,387),(387,128),(515,1)]:=by kernel_rfl
theorem built_plan (S:Sup) (R:Nat→Int) (L:Int):Tryz.prog.built 106 [(0,.agg S.cs.toArray),(1,.agg (inl 128 R).toArray),(2,.int .i64 L)]=some (S.cs++ptl R L).toArray:=by
  obtain ⟨it,hi,z,hz,hc⟩:=zero_plan;have hu:Tryz.prog.underlying 106=some (.struct (Tryz.prog.fieldsOf 106)):=by kernel_rfl
  unfold Program.built;rw [hi,hu];simp only [hz,places_plan,hc];have e:sup0.cs++ptl ino0 0=[]++(sup0.cs++ptl ino0 0):=rfl;rw [e,fill_part (vs:=S.cs) (n:=387) (off:=0) rfl rfl (Sup.cs_len _) rfl (Sup.cs_len _)];have e2:[]++(S.cs++ptl ino0 0)=S.cs++(inl 128 ino0++[Value.int .i64 0]):=rfl;rw [e2,fill_part (vs:=inl 128 R) (n:=128) (off:=387) rfl rfl (inl_len _ _) (Sup.cs_len _) (inl_len _ _)];have e3:S.cs++(inl 128 R++[Value.int .i64 0])=(S.cs++inl 128 R)++([Value.int .i64 0]++[]):=by simp
  rw [e3,fill_part (vs:=[.int .i64 L]) (n:=1) (off:=515) rfl rfl rfl (by simp [Sup.cs_len,inl_len]) rfl];simp [Instr.fill,ptl]
theorem zero_plan_run:∀ w:World,(zeroValue 106).run Tryz.prog w=.ok (.agg (sup0.cs++ptl ino0 0).toArray) w:=fun w=>by kernel_rfl
/- Files:bytes written. Conditions:the desk lies there;there is room;the row of slots is told;each block's content is known. -/
structure WR (W:World) (g5 g8 g11 g12:Nat) (v R:Nat→Int) (PC:List Value):Prop where
  r5:Row W g5 43 (ncs v)
  r8:Row W g8 43 (ncs ino0)
  r11:Row W g11 99 (inl 128 R)
  r12:Row W g12 106 PC
section
variable {W W':World} {g5 g8 g11 g12:Nat} {v R:Nat→Int} {PC:List Value}
theorem WR.chg {F:List Nat} (h:WR W g5 g8 g11 g12 v R PC) (hc:Chg F W W') (hn:g5 ∉ F∧g8 ∉ F∧g11 ∉ F∧g12 ∉ F):WR W' g5 g8 g11 g12 v R PC:=
  ⟨hc.row h.r5 hn.1,hc.row h.r8 hn.2.1,hc.row h.r11 hn.2.2.1,hc.row h.r12 hn.2.2.2⟩
theorem WR.below (h:WR W g5 g8 g11 g12 v R PC) (hb:Below W.heap.size W W'):WR W' g5 g8 g11 g12 v R PC:=⟨h.r5.kept hb,h.r8.kept hb,h.r11.kept hb,h.r12.kept hb⟩
theorem WR.grown {base k n:Nat} {x:Value} {xs:List Value} (h:WR W g5 g8 g11 g12 v R PC) (hown:W.ownsRow base 110 k x n xs) (hg:W.grownBy W' x.ownBlock):WR W' g5 g8 g11 g12 v R PC:=
  ⟨h.r5.grown hg (row_parted h.r5 hown (by decide)).symm,h.r8.grown hg (row_parted h.r8 hown (by decide)).symm,h.r11.grown hg (row_parted h.r11 hown (by decide)).symm,h.r12.grown hg (row_parted h.r12 hown (by decide)).symm⟩
end
def blks' (bk:Nat→Nat→UInt8) (k:Nat):List Value:=(List.range k).flatMap fun j=>brr 256 (bk j)
theorem blks_snoc (bk:Nat→Nat→UInt8) (k:Nat):blks' bk (k+1)=blks' bk k++brr 256 (bk k):=by
  unfold blks';rw [List.range_succ,List.flatMap_append];simp
theorem blks_len (bk:Nat→Nat→UInt8):∀ k,(blks' bk k).length=k*256
  | 0=>rfl
  | k+1=>by rw [blks_snoc,Zf,blks_len bk k,brr_len];omega
theorem blks_get (bk:Nat→Nat→UInt8):∀ (n k j:Nat),k<n→j<256→(blks' bk n)[k*256+j]?=some (B (bk k j))
  | 0,k,j,hk,hj=>by omega
  | n +1,k,j,hk,hj=>by
    rw [blks_snoc];by_cases e:k<n
    · rw [Zv (by rw [blks_len];omega)];exact blks_get bk n k j e hj
    · have e2:k=n:=by omega
      subst e2;rw [Zm (by rw [blks_len];omega),blks_len,show k*256+j - k*256=j by omega];exact brr_get _ hj
theorem blk_hol {w:World} {base n c k:Nat} {A:Option Addr} {bk:Nat→Nat→UInt8} (h:w.ownsRow base 110 256 (.slice A n c) n (blks' bk n)) (hk:k<n):∃ gB,A=some ⟨gB,0,none⟩∧Hol w (some ⟨gB,k*256,none⟩) (lst 256 (bk k)):=by
  rcases h.2 with ⟨h1,h2⟩ | ⟨gB,cap,cur,h1,h2,h3,h4⟩
  · omega
  · simp only [Value.slice.injEq] at h1;obtain ⟨rfl,_,_⟩:=h1;refine ⟨gB,rfl,.inr ⟨gB,k*256,rfl,fun j x hx=>?_⟩⟩;have hj:j<256:=by have:=(Zn.1 hx).1;rwa [lst_len] at this
    rw [lst_get _ hj] at hx;injection hx with hx
    subst hx;have h5:=h.cells (g:=gB) rfl (k*256+j) _ (blks_get bk n k j hk hj);rwa [Addr.add_lit,Nat.zero_add] at h5
def DX.wrs (X:DX) (sl:Nat→Int) (bk:Nat→Nat→UInt8):Nat→DX
  | 0=>X
  | k+1=>(DX.wrs X sl bk k).put (sl k) (lst 256 (bk k))
def PL (X:DX) (L0 L:Int) (W0 R:Nat→Int) (X2:DX):Prop:=((L=0∨(L=L0∧∀ j,j<112→R (16+j)=W0 (16+j)))∧X2=X)∨(L≠0∧(L≠L0∨¬ ∀ j,j<112→R (16+j)=W0 (16+j))∧X2=X.put L (blk s2 (fun j=>R (16+j)) 112))
section
variable {b:Nat} {w w':World} {gd gv gm gs r:Nat} {Bs:List BV} {N n:Nat} {X X':DX}
theorem dputlist {X2:DX} (v W0 R:Nat→Int) (L:Int) (S:Sup) (gp:Nat) (h:DK b w gd gv gm gs r Bs N n X) (hr:Row w gp 106 (S.cs++ptl R L)) (hgp:gp≠gd) (hL:0≤L∧L<256) (hsl:∀ j,j<112→0≤R (16+j)∧R (16+j)≤255) (hn:n≤3000) (hX:PL X (v 26) L W0 R X2):
    Calls Tryz.prog 49 #[.pointer (some ⟨gd,0,none⟩),.agg (ncs v).toArray,.agg (inl 128 W0).toArray,.pointer (some ⟨gp,0,none⟩)] w (DPut b w gd gv gm gs r Bs N (n+1) X2):=by
  have up:∀ {e:Ending} {w':World},DPut b w gd gv gm gs r Bs N n X e w'→DPut b w gd gv gm gs r Bs N (n+1) X e w':=fun h=>⟨h.1,Za (h.2.1.out.mono (Nat.le_succ _)),h.2.2⟩;rcases hX with ⟨h1 | ⟨h1,h2⟩,rfl⟩ | ⟨h1,h2,rfl⟩
  · exact (dputlist_1 v W0 R L S gp h hr hgp h1).mono fun _ _=>up
  · by_cases h0:L=0
    · exact (dputlist_1 v W0 R L S gp h hr hgp h0).mono fun _ _=>up
    · exact (dputlist_3 v W0 R L S gp h hr hgp h0 h1 h2).mono fun _ _=>up
  · by_cases h3:L=v 26
    · rcases h2 with h2 | h2
      · exact absurd h3 h2
      · exact dputlist_4 v W0 R L S gp h hr hgp h1 h3 h2 (by omega) hsl hn
    · exact dputlist_2 v W0 R L S gp h hr hgp h1 h3 (by omega) hsl hn
theorem DK.grown_own {base k m:Nat} {x:Value} {xs:List Value} (h:DK b w gd gv gm gs r Bs N n X) (hown:w.ownsRow base 110 k x m xs) (hb:b≤base) (hg:w.grownBy w' x.ownBlock):DK b w' gd gv gm gs r Bs N n X:=by
  obtain ⟨_,_,_,_,hd⟩:=h.desk;obtain ⟨C,hv,_⟩:=h.view;have p1:=row_parted hd hown (by decide);have p2:=row_parted hv.row hown (by decide);have p3:=row_parted h.run hown (by decide);rcases hown.2 with ⟨rfl,_⟩ | ⟨gB,cap,cur,rfl,h2,h3,_⟩
  · exact h.below (below_of_grown hg)
  · simp only [Value.ownBlock,ne_eq,Option.some.injEq] at p1 p2 p3 hg
    exact h.chg (Chg.one hg) (by simp;exact fun e=>p1 e.symm) (by simp;exact fun e=>p2 e.symm) (by simp;exact fun e=>hv.map.no_cells _ _ _ (e ▸ h3)) (by simp;exact fun e=>p3 e.symm) (fun x hx cs fr e=>by
      rw [Zr] at hx;subst hx;rw [h3] at e;injection e with e
      injection e with _ e
      exact absurd e (by decide)) (fun x hx=>by rw [Zr] at hx;subst hx;omega)
theorem own_chg {base k m:Nat} {e:TypeId} {x:Value} {xs:List Value} {F:List Nat} (hown:w.ownsRow base e k x m xs) (hc:Chg F w w') (hn:∀ g ∈ F,x.ownBlock≠some g):w'.ownsRow base e k x m xs:=Chg.own hown hc fun k hk hf=>hn k hf hk
def RowOk (b:Nat) (gd gv gm gs r:Nat) (Bs:List BV) (N:Nat) (X:DX) (v:Nat→Int) (e:Nat) (R:Nat→Int):Prop:=∀ (w:World) (n:Nat),DK b w gd gv gm gs r Bs N n X→Calls Tryz.prog 43 #[.pointer (some ⟨gd,0,none⟩),.agg (ncs v).toArray,.int .i64 (e:Int)] w (DOne b w gd gv gm gs r Bs N n X (.agg (inl 128 R).toArray))
theorem dwrite {X2:DX} (v R:Nat→Int) (A:Option Addr) (c m off first cnt e:Nat) (l:L8) (fk:Nat→Nat→UInt8) (s mm:Nat) (si:Nat→Int) (oo:Nat→Bool) (z:Int)
    (h:DK b w gd gv gm gs r Bs N n X) (hL:LdR Bs X X') (hn:n+cnt≤2999) (hm:l.length=m) (hmc:m≤c) (hm1:1≤m) (ho:off+m≤32768) (hF:first*256≤off∧off<first*256+256∧off+m≤e*256∧e*256<off+m+256) (hcnt:first+cnt=e)
    (hD:∀ W,Chg [gd,gm] w W→Hol W A l) (hrow:RowOk b gd gv gm gs r Bs N X' v e R) (hR:∀ j,j<128→0≤R j∧R j≤255) (hv26:0≤v 26∧v 26<256)
    (hS:X'.S=supU s si oo mm) (hmm:1≤mm) (hN:N≤256) (hroom:mm+zc R first cnt+1≤N)
    (hcont:∀ k,k<cnt→∃ zk:Nat,R (first+k)=(zk:Int)∧Cont X' Bs zk (fk k)) (hz:(if ((off+m:Nat):Int) > v 5 then ((off+m:Nat):Int) else v 5)=z)
    (hPL:PL ((X'.setS (supU s si oo (flM e (v 26) (mm+zc R first cnt)))).wrs (fun k=>flR R mm first cnt (first+k)) (fun k=>mixF l ((off:Int) - ((first+k:Nat):Int)*256) (fk k)) cnt) (v 26) (flL e (v 26) (mm+zc R first cnt)) R (flR R mm first cnt) X2):
    Calls Tryz.prog 20 #[.pointer (some ⟨gd,0,none⟩),.agg (ncs v).toArray,.int .i64 (off:Int),.slice A m c] w fun ee w'=>ee=.returned (.agg (ncs (toldV v (flR R mm first cnt) (flL e (v 26) (mm+zc R first cnt)) z)).toArray)∧Hid (DK b w' gd gv gm gs r Bs N (n+cnt+1) X2)∧Hid (Chg [gd,gm] w w'):=by
  have he128:e≤128:=by omega
  have hfl:flR R mm first cnt=flR R mm first cnt:=rfl
  have HBG:=Za (hbegin h (by omega));have HLT:=Za h.lt;have HLO:=Za h.lo;have HL:=Za hL;have HN:=Za (p:=n+cnt≤2999) hn;have i1:=Za (fun x:Sup=>info_cs x);have i2:=Za (fun v=>info_ncs v);have i3:=Za info_rows;have i4:=Za (fun S R L=>info_plans S R L);have hzi:=Za zero_ino;have hzr:=Za zero_row;have hzp:=Za zero_plan_run;have hzb:=Za zero_block;have HBP:=Za (fun S R L=>built_plan S R L);have HMAY:=Za (may_ok off m ho)
  have HSPAN:=Za (p:=∀ w,Calls Tryz.prog 46 #[.int .i64 (off:Int),.int .i64 (m:Int)] w fun e' w'=>e'=.returned (.tuple #[.int .i64 (first:Int),.int .i64 (e:Int)])∧w=w') (fun w=>by
    have h1:=span_ok off m hm1 ho w;rw [show off / 256=first by omega,show (off+m - 1) / 256+1=e by omega] at h1;exact h1)
  have HROW:=Za hrow;obtain ⟨v26,hv26e⟩:∃ v26,v 26=v26:=⟨_,rfl⟩;obtain ⟨v5,hv5e⟩:∃ v5,v 5=v5:=⟨_,rfl⟩;have HV:=Za (p:=∀ W g,Row W g 43 (ncs v)→W.cell? ⟨g,26,none⟩=some (.int .i64 v26)∧W.cell? ⟨g,5,none⟩=some (.int .i64 v5)) (fun W g h=>by rw [← hv26e, ← hv5e];exact ⟨(h.cell 26).trans rfl,(h.cell 5).trans rfl⟩);rw [hv26e] at hPL hv26;rw [hv5e] at hz;rw [hv26e];obtain ⟨R2,hR2⟩:∃ R2,flR R mm first cnt=R2:=⟨_,rfl⟩
  obtain ⟨L2,hL2⟩:∃ L2,flL e v26 (mm+zc R first cnt)=L2:=⟨_,rfl⟩;obtain ⟨m2,hm2⟩:∃ m2,flM e v26 (mm+zc R first cnt)=m2:=⟨_,rfl⟩;have HL2:=Za (p:=0≤L2∧L2<256) (by rw [← hL2];unfold flL;split <;> omega)
  have HR2:=Za (p:=∀ j,j<128→0≤R2 j∧R2 j≤255) (fun j hj=>by
    rw [← hR2];unfold flR
    split
    · rename_i hjj
      have:=zc_mono R first (j - first) cnt (by omega)
      omega
    · exact hR j hj)
  obtain ⟨S2,hS2⟩:∃ S2,supU s si oo m2=S2:=⟨_,rfl⟩
  have HFILL:=Za (p:=∀ (w:World) (gp:Nat),Row w gp 106 (X'.S.cs++ptl R v26)→Calls Tryz.prog 47 #[.pointer (some ⟨gp,0,none⟩),.int .i64 (first:Int),.int .i64 (e:Int),.int .i64 (N:Int)] w fun ee w'=>ee=.returned (.bool true)∧Hid (Row w' gp 106 (S2.cs++ptl R2 L2))∧Hid (Chg [gp] w w')) (fun w gp hr=>by
    rw [hS] at hr;have h1:=pfill w gp s si oo mm R v26 N first cnt e hcnt he128 hmm hN hroom hr
    rw [hR2,hL2,hm2,hS2] at h1;exact h1)
  obtain ⟨bk,hbk⟩:∃ bk:Nat→Nat→UInt8,(fun k=>mixF l ((off:Int) - ((first+k:Nat):Int)*256) (fk k))=bk:=⟨_,rfl⟩;rw [hR2,hL2,hm2,hS2,hbk] at hPL;rw [hR2,hL2];have HPL:=Za hPL
  have HMIX:=Za (p:=∀ (W:World) (k:Nat),k<cnt→DK b W gd gv gm gs r Bs N n X'→Chg [gd] w W→∃ zk:Nat,R (first+k)=(zk:Int)∧Calls Tryz.prog 48 #[.pointer (some ⟨gd,0,none⟩),.int .i64 (zk:Int),.int .i64 ((off:Int) - ((first+k:Nat):Int)*256),.slice A m c] W (DOne b W gd gv gm gs r Bs N n X' (.agg (brr 256 (bk k)).toArray))) (fun W k hk hdk hcw=>by
    obtain ⟨zk,h1,h2⟩:=hcont k hk;refine ⟨zk,h1,?_⟩;rw [← hbk];refine dmixed zk (fk k) hdk h2 A c m l hm hmc ⟨hm1,by omega⟩ (fun W2 hc2=>hD W2 ?_) _ (by omega) (by omega);exact (chg_same hcw hc2).wider (fun x hx=>.inl (by simp at hx ⊢;exact .inl hx)))
  have HK:=Za (p:=first+cnt=e∧e≤128∧off≤32768∧1≤cnt) ⟨hcnt,he128,by omega,by omega⟩;have hsub:IntKind.i64.wrap ((e:Int) - (first:Int))=(cnt:Int):=by rw [Zg];omega
  have hm0:((m:Int)==0)=false:=beq_false_of_ne (by omega);have hsum:IntKind.i64.wrap ((off:Int)+(m:Int))=((off+m:Nat):Int):=by rw [Zg];omega
  obtain ⟨om,hom⟩:∃ om,off+m=om:=⟨_,rfl⟩;rw [hom] at hsum hz;have HZ:=Za hz;have HRB:=Za hR;clear h hL hn hm hmc hm1 ho hF hcnt hD hrow hR hv26 hS hmm hN hroom hcont hz hPL hfl he128 hv26e hv5e hR2 hL2 hm2 hbk hom;go_enter Tryz.func20,Tryz.ntmps20
  go_wp2_with (first
    | (refine step_box rfl 5 rfl 43 (.tmp 1) rfl (ncs v) rfl ?_;intro g5 w2 hr2 hg2 hb2 hs2;have HR52:=Za hr2
       have HB2:=Za hb2;have HG5:=Za (p:=w.heap.size≤g5) (Nat.le_of_eq hg2.out.symm);clear hr2 hg2 hb2 hs2)
    | (refine step_alloc rfl 8 rfl 43 rfl _ hzi.out ?_;intro g8 w3 hr3 hg3 hb3 hs3;have HR83:=Za hr3
       have HR53:=Za (HR52.out.kept hb3);have HB3:=Za (below_nxt hb3 HB2.out);have HG8:=Za (p:=w.heap.size≤g8∧g5<g8) (by rw [hg3.out];exact ⟨HB2.out.size,HR52.out.lt⟩);clear hr3 hg3 hb3 hs3)
    | (go_at_call 27;refine (HBG.out _ HB3.out).mono ?_;rintro e w4 ⟨rfl,hk,hc⟩;have HK4:=hk
       have HC4:=Za (p:=Chg [gd] w w4) ((Chg.of (F:=[gd]) HB3.out).trans hc.out (fun x hx=>.inl hx));have HR54:=Za (hc.out.row HR53.out (by have h1:=HLT.out;have h2:=HG5.out;simp;omega));have HR84:=Za (hc.out.row HR83.out (by have h1:=HLT.out;have h2:=HG8.out;simp;omega));clear hk hc)
    | (go_at_call 45;refine (HMAY.out _).mono ?_;rintro e w5 ⟨rfl,rfl⟩)
    | (go_at_call 28;refine (dload HK4.out HL.out).mono ?_;rintro e w5 ⟨rfl,hk,hc⟩;have HK5:=hk
       have HC5:=Za (p:=Chg [gd] w w5) (chg_same HC4.out hc.out);have HR55:=Za (hc.out.row HR54.out (by have h1:=HLT.out;have h2:=HG5.out;simp;omega));have HR85:=Za (hc.out.row HR84.out (by have h1:=HLT.out;have h2:=HG8.out;simp;omega));clear hk hc)
    | (go_at_call 46;refine (HSPAN.out _).mono ?_;rintro e w6 ⟨rfl,rfl⟩)
    | (refine step_load rfl 39 rfl 43 (.tmp 5) rfl g5 rfl (ncs v) _ HR55.out.all Yh rfl (i2.out _) ?_)
    | (go_at_call 43;refine (HROW.out _ _ HK5.out).mono ?_;rintro e w6 ⟨rfl,hk,hc⟩;have HK6:=hk
       have HC6:=Za (p:=Chg [gd] w w6) (chg_same HC5.out hc.out);have HR56:=Za (hc.out.row HR55.out (by have h1:=HLT.out;have h2:=HG5.out;simp;omega));have HR86:=Za (hc.out.row HR85.out (by have h1:=HLT.out;have h2:=HG8.out;simp;omega));clear hk hc)
    | (refine step_alloc rfl 11 rfl 99 rfl _ hzr.out ?_;intro g11 w7 hr8 hg8 hb8 hs8;have HR117:=Za hr8
       have HK7:=Za (HK6.out.below hb8);have HC7:=Za (chg_nxt HC6.out hb8);have HR57:=Za (HR56.out.kept hb8);have HR87:=Za (HR86.out.kept hb8);have HG11:=Za (p:=w.heap.size≤g11∧g5<g11∧g8<g11) (by rw [hg8.out];exact ⟨HC6.out.size,HR56.out.lt,HR86.out.lt⟩);clear hr8 hg8 hb8 hs8)
    | (refine step_store rfl 99 (.tmp 11) (.tmp 41) rfl g11 rfl _ _ (inl 128 R) rfl HR117.out (by rw [inl_len,inl_len]) (i3.out _) (inl_one _ _) ?_;intro w8 hr9 hg9 hs9;have HR118:=Za hr9.drew
       have HK8:=Za ((HK7.out.other HR117.out (by decide) (by have:=HLO.out;have:=HG11.out;omega) (Chg.one hg9)).below (below_drw w8));have HC8:=Za (p:=Chg [gd] w w8.drew) (chg_nxt (chg_own HC7.out HG11.out.1 (Chg.one hg9)) (below_drw w8));have HR58:=Za (p:=Row w8.drew g5 43 (ncs v)) ((HR57.out.grown hg9 (fun e=>by have:=HG11.out;injection e;omega)).drew);have HR88:=Za (p:=Row w8.drew g8 43 (ncs ino0)) ((HR87.out.grown hg9 (fun e=>by have:=HG11.out;injection e;omega)).drew);obtain ⟨tl,ah,la,e1,e2,e3,hd⟩:=HK8.out.parts;have HD:=Za hd;obtain ⟨DC,hDC⟩:∃ DC,((dhd gv N++[Value.bool X'.rd])++(X'.S.cs++(X'.S0.cs++tl)))=DC:=⟨_,rfl⟩;have HRNG:=Za (p:=∀ W,Row W gd 80 DC→W.rangeAt gd 3 X'.S.cs) (fun W h=>by subst hDC;exact h.rng rfl);rw [hDC] at HD;have HS8:=Za (p:=Row w8.drew gd 80 DC∧Row w8.drew g11 99 (inl 128 R)∧Row w8.drew g5 43 (ncs v)) ⟨HD.out,HR118.out,HR58.out⟩;clear hr9 hg9 hs9 e1 e2 e3 hd hDC))
  refine Zq (S:=fun W=>Row W gd 80 DC∧Row W g11 99 (inl 128 R)∧Row W g5 43 (ncs v)) (by kernel_rfl) HS8.out (fun hHeld=>?_);refine Ze (i:=0) (oi:=⟨some 42,.move (.tmp 0),_,_,_,_⟩) (v:=.pointer (some ⟨gd,0,none⟩)) rfl (by kernel_rfl) (by kernel_rfl) (by kernel_rfl) (fun _ _ _ h=>h) (.inl ⟨by rfl,fun w hSw=>by go_simp⟩) (by assumption) ?_;simp only [Act.put,Zb,Zc,Zd];refine Ze (i:=1) (oi:=⟨some 43,.nilCheck (.tmp 42),_,_,_,_⟩) (v:=.pointer (some ⟨gd,0,none⟩)) rfl (by kernel_rfl) (by kernel_rfl) (by kernel_rfl) (fun _ _ _ h=>h) (.inl ⟨by rfl,fun w hSw=>by go_simp⟩) (by assumption) ?_;simp only [Act.put,Zb,Zc,Zd];refine Ze (i:=2) (oi:=⟨some 44,.fieldAddr 80 (.tmp 43) 2,_,_,_,_⟩) (v:=.pointer (some ⟨gd,2,none⟩)) rfl (by kernel_rfl) (by kernel_rfl) (by kernel_rfl) (fun _ _ _ h=>h) (.inl ⟨by rfl,fun w hSw=>by go_simp⟩) (by assumption) ?_;simp only [Act.put,Zb,Zc,Zd];refine Ze (i:=3) (oi:=⟨some 45,.fieldAddr 78 (.tmp 44) 1,_,_,_,_⟩) (v:=.pointer (some ⟨gd,3,none⟩)) rfl (by kernel_rfl) (by kernel_rfl) (by kernel_rfl) (fun _ _ _ h=>h) (.inl ⟨by rfl,fun w hSw=>by go_simp⟩) (by assumption) ?_;simp only [Act.put,Zb,Zc,Zd];refine Ze (i:=4) (oi:=⟨some 46,.load 76 (.tmp 45),_,_,_,_⟩) (v:=.agg X'.S.cs.toArray) rfl (by kernel_rfl) (by kernel_rfl) (by kernel_rfl) (fun _ _ _ h=>h) (Yb (by rfl) 76 (.tmp 45) rfl gd 3 rfl X'.S.cs _ (fun w hSw=>HRNG.out _ hSw.1) Yj rfl (i1.out _)) (by assumption) ?_;simp only [Act.put,Zb,Zc,Zd];refine Ze (i:=5) (oi:=⟨some 47,.load 99 (.tmp 11),_,_,_,_⟩) (v:=.agg (inl 128 R).toArray) rfl (by kernel_rfl) (by kernel_rfl) (by kernel_rfl) (fun _ _ _ h=>h) (Yb (by rfl) 99 (.tmp 11) rfl g11 0 rfl (inl 128 R) _ (fun w hSw=>hSw.2.1.all) Yk rfl (i3.out _)) (by assumption) ?_;simp only [Act.put,Zb,Zc,Zd];refine Ze (i:=6) (oi:=⟨some 48,.fieldAddr 43 (.tmp 5) 11,_,_,_,_⟩) (v:=.pointer (some ⟨g5,26,none⟩)) rfl (by kernel_rfl) (by kernel_rfl) (by kernel_rfl) (fun _ _ _ h=>h) (.inl ⟨by rfl,fun w hSw=>by go_simp⟩) (by assumption) ?_;simp only [Act.put,Zb,Zc,Zd];refine Ze (i:=7) (oi:=⟨some 49,.load 3 (.tmp 48),_,_,_,_⟩) (v:=.int .i64 v26) rfl (by kernel_rfl) (by kernel_rfl) (by kernel_rfl) (fun _ _ _ h=>h) (.inl ⟨by rfl,fun w hSw=>by have z:=(HV.out _ _ hSw.2.2).1;go_simp⟩) (by assumption) ?_;simp only [Act.put,Zb,Zc,Zd];refine Ze (i:=8) (oi:=⟨some 50,.build 106 #[(0,.tmp 46),(1,.tmp 47),(2,.tmp 49)],_,_,_,_⟩) (v:=.agg (X'.S.cs++ptl R v26).toArray) rfl (by kernel_rfl) (by kernel_rfl) (by kernel_rfl) (fun _ _ _ h=>h) (.inl ⟨by rfl,fun w hSw=>run_build_op w _ 106 _ rfl [(0,.agg X'.S.cs.toArray),(1,.agg (inl 128 R).toArray),(2,.int .i64 v26)] (by simp [Act.eval,Act.put]) _ (HBP.out _ _ _)⟩) (by assumption) ?_;simp only [Act.put,Zb,Zc,Zd];refine Zp (rs:=[9]) (by kernel_rfl) (by simp) ?_;refine Zl (o:=⟨some 12,.alloc 106,_,_,_,_⟩) rfl (fun K hK=>?_) Zo;refine st_alloc (by rfl) 106 rfl _ hzp.out ?_;intro g12 w9 hr6 hg6 hb;have HR129:=Za hr6;have HB9:=Za hb;have HS9:=Za (p:=Row w9 gd 80 DC∧Row w9 g11 99 (inl 128 R)∧Row w9 g5 43 (ncs v)) ⟨HS8.out.1.kept hb,HS8.out.2.1.kept hb,HS8.out.2.2.kept hb⟩;have HG12:=Za (p:=w.heap.size≤g12∧g5<g12∧g8<g12∧g11<g12) (by rw [hg6.out];exact ⟨HC8.out.size,HR58.out.lt,HR88.out.lt,HR118.out.lt⟩);clear hr6 hg6 hb;refine hK.out _ _ HS9.out (fun _hH=>?_);clear hK K;refine Zp (rs:=[10]) (by kernel_rfl) (by simp) ?_;refine Zl (o:=⟨none,.store 106 (.tmp 12) (.tmp 50),_,_,_,_⟩) rfl (fun K hK=>?_) Zo;refine st_store (by rfl) 106 (.tmp 12) (.tmp 50) rfl g12 (by rfl) 106 _ (X'.S.cs++ptl R v26) (by rfl) HR129.out (by simp [Sup.cs_len,ptl,inl_len]) (i4.out _ _ _) (by intro u hu;rcases List.mem_append.1 hu with hu | hu;exact Sup.cs_one _ _ hu;unfold ptl at hu;rcases List.mem_append.1 hu with hu | hu;exact inl_one _ _ _ hu;rw [Zr] at hu;subst hu;rfl) ?_;intro w10 hr6 hg6;have HG9:=HG12.out;have HS10:=Za (p:=Row w10 gd 80 DC∧Row w10 g11 99 (inl 128 R)∧Row w10 g5 43 (ncs v)) ⟨HS9.out.1.grown hg6 (fun e=>by have h2:=HLT.out;injection e;omega),HS9.out.2.1.grown hg6 (fun e=>by injection e;omega),HS9.out.2.2.grown hg6 (fun e=>by injection e;omega)⟩;have HW10:=Za (p:=WR w10 g5 g8 g11 g12 v R (X'.S.cs++ptl R v26)) ⟨HS10.out.2.2,(HR88.out.kept HB9.out).grown hg6 (fun e=>by injection e;omega),HS10.out.2.1,hr6⟩;have HK10:=Za ((HK8.out.below HB9.out).other HR129.out (by decide) (by have:=HLO.out;omega) (Chg.one hg6));have HC10:=Za (p:=Chg [gd] w w10) (chg_own (chg_nxt HC8.out HB9.out) HG9.1 (Chg.one hg6));clear hr6 hg6 HG9;refine hK.out _ _ HS10.out (fun _hH=>?_);clear hK K;refine Yg (by kernel_rfl) ?_ _
  have c1:w10.cell? ⟨gd,1,none⟩=some (.int .i64 (N:Int)):=by
    obtain ⟨ah,la,e1,e2,hd⟩:=HK10.out.desk;exact (hd.cell 1).trans rfl
  clear HK4 HC4 HK5 HC5 HK6 HC6 HK7 HC7 HR52 HR53 HR54 HR55 HR56 HR57 HR83 HR84 HR85 HR86 HR87 HR117 HS8 HS9 HS10 HRNG HD HR129 HR118 HR58 HR88 HK8 HC8 HB9
  go_wp2_with (go_at_call 47;refine (HFILL.out _ _ HW10.out.r12).mono ?_;rintro e w11 ⟨rfl,hr,hc⟩;have HG9:=HG12.out
               have HW11:=Za (p:=WR w11 g5 g8 g11 g12 v R (S2.cs++ptl R2 L2)) ⟨hc.out.row HW10.out.r5 (by simp;omega),hc.out.row HW10.out.r8 (by simp;omega),hc.out.row HW10.out.r11 (by simp;omega),hr.out⟩;have HK11:=Za (HK10.out.other HW10.out.r12 (by decide) (by have:=HLO.out;omega) hc.out);have HC11:=Za (p:=Chg [gd] w w11) (chg_own HC10.out HG9.1 hc.out);clear hr hc HG9 c1)
  have HGX:=Za (p:=gd<w.heap.size∧w.heap.size≤g5∧w.heap.size≤g8∧w.heap.size≤g11∧w.heap.size≤g12) ⟨HLT.out,HG5.out,HG8.out.1,HG11.out.1,HG12.out.1⟩;go_loopw [13,63] (fun x y wr=>∃ (k:Nat) (A':Option Addr) (c':Nat),Hid (k≤cnt)∧y=.int .i64 (k:Int)∧x=.slice A' k c'∧Hid (wr.ownsRow w.heap.size 110 256 (.slice A' k c') k (blks' bk k))∧Hid (DK b wr gd gv gm gs r Bs N n X')∧Hid (WR wr g5 g8 g11 g12 v R (S2.cs++ptl R2 L2))∧Hid (Chg [gd] w wr)) (fun _ y _=>cnt - (intOf y).toNat)
  case atStart=>exact ⟨0,none,0,Za (Nat.zero_le _),rfl,rfl,Za (Ye _ _ _ _),HK11,HW11,HC11⟩
  case round =>
    obtain ⟨k,A',c',HKL,rfl,rfl,HO,HDK,HWR,HCW⟩:=hrel;by_cases hk:k<cnt
    · have hki:(k:Int)<(cnt:Int):=by omega
      have hkf:=HK.out;obtain ⟨zk,hzk,hmx⟩:=HMIX.out wr k hk HDK.out HCW.out;obtain ⟨j,hj⟩:∃ j,first+k=j:=⟨_,rfl⟩
      rw [hj] at hzk hmx;obtain ⟨Bz,hBz⟩:∃ Bz,(off:Int) - (j:Int)*256=Bz:=⟨_,rfl⟩;have hjw:IntKind.i64.wrap ((first:Int)+(k:Int))=(j:Int):=by rw [Zg];omega
      have hj128:(j:Int)<128:=by omega
      obtain ⟨jq,hjq⟩:∃ jq:Int,(j:Int)*256=jq:=⟨_,rfl⟩;have hjm:IntKind.i64.wrap ((j:Int)*256)=jq:=by rw [Zg, ← hjq];omega
      have hjs:IntKind.i64.wrap ((off:Int) - jq)=Bz:=by rw [Zg, ← hBz,hjq];omega
      have cz:wr.cell? ⟨g11,j,none⟩=some (.int .i64 (zk:Int)):=by rw [HWR.out.r11.cell,inl_get _ (by omega),hzk]
      have hkw:IntKind.i64.wrap ((k:Int)+1)=(k:Int)+1:=by rw [Zg];omega
      rw [hBz] at hmx;have HMX:=Za hmx;have HKK:=Za hk;obtain ⟨ib,zb,ht1,ht2,ht3,ht4,ht5⟩:=block_tab;have HT:=Za (p:=Tryz.prog.info? 110=some ib∧ib.zero=some zb∧ib.size=256∧ib.bytes≤1024∧zb.cells.size=256) ⟨ht1,ht2,ht3,ht4,ht5⟩;clear hk hzk hmx hj hBz hjq hkf ht1 ht2 ht3 ht4 ht5
      go_wp2_with (first
        | (go_at_call 48;refine HMX.out.mono ?_;rintro e w13 ⟨rfl,hk,hc⟩;obtain ⟨_,_,_,_,hdd⟩:=HDK.out.desk
           have HO13:=Za (own_chg HO.out hc.out (fun x hx=>by rw [Zr] at hx;subst hx;exact row_parted hdd HO.out (by decide)));have HK13:=hk;have HC13:=Za (p:=Chg [gd] w w13) (chg_same HCW.out hc.out);have HW13:=Za (HWR.out.chg hc.out (by have:=HGX.out;simp;omega));clear hk hc hdd cz)
        | (refine step_bs1 rfl 108 110 (.tmp 80) rfl Tryz.underlying108 256 info_block (by decide) _ hzb.out (brr 256 (bk k)) (brr_len _ _) rfl ?_;intro g14 w14 hr14 hg14 hb14
           have HR14:=Za hr14;have HO14:=Za (own_kept HO13.out hb14);have HK14:=Za (HK13.out.below hb14);have HC14:=Za (chg_nxt HC13.out hb14);have HW14:=Za (HW13.out.below hb14);clear hr14 hg14 hb14)
        | (at_builtin
           refine step_more (t:=108) (e:=110) (k:=256) rfl _ _ rfl Tryz.underlying108 ib zb HT.out.1 HT.out.2.1 HT.out.2.2.1 HT.out.2.2.2.1 HT.out.2.2.2.2 (by decide) w.heap.size (.slice A' k c') k (blks' bk k) rfl HO14.out ⟨g14,0,none⟩ 1 (brr 256 (bk k)) rfl (brr_len _ _) (fun j u hu=>by rw [Addr.add_lit,Nat.zero_add,HR14.out.cell];exact hu) (brr_one _ _) (by have:=HKK.out;have:=HN.out;omega) HC14.out.size ?_;intro v1 w15 ho1 hg1 hat1;obtain ⟨A1,c1',rfl⟩:=own_sl ho1;have HO15:=Za (p:=w15.ownsRow w.heap.size 110 256 (.slice A1 (k+1) c1') (k+1) (blks' bk (k+1))) (by rw [blks_snoc];exact ho1);have HK15:=Za (HK14.out.grown_own HO14.out HLO.out.2.2 hg1);have HW15:=Za (HW14.out.grown HO14.out hg1);have HC15:=Za (p:=Chg [gd] w w15) (HC14.out.grown hg1 (fun q hq=>.inr (HO14.out.lt q hq).1));clear ho1 hg1 hat1))
      go_roundw
      case rel=>exact ⟨k+1,A1,c1',HKK,by go_num,rfl,HO15,HK15,HW15,HC15⟩
      case measure=>have:=HKK.out;simp [intOf];omega
    · have hkz : ¬ (k:Int)<(cnt:Int):=by omega
      have hke:k=cnt:=by have:=HKL.out;omega
      subst hke;clear hk;obtain ⟨tl,ah,la,e1,e2,e3,hd⟩:=HDK.out.parts;have HD:=Za hd;have HE:=Za (p:=ah.length=775∧(∀ v ∈ ah,v.oneCell'=true)∧tl=ah++dtl false la) ⟨e1,e2,e3⟩;clear e1 e2 e3 hd
      go_wp2_with (first
        | (refine step_load_at rfl 76 (.tmp 85) rfl g12 0 (by rfl) 106 [] S2.cs (ptl R2 L2) _ HWR.out.r12 rfl Yj rfl (i1.out _) ?_)
        | (refine step_store_at rfl 76 (.tmp 89) (.tmp 86) rfl gd 3 (by rfl) 80 (dhd gv N++[Value.bool X'.rd]) X'.S.cs S2.cs (X'.S0.cs++tl) (by rfl) HD.out rfl (by simp [Sup.cs_len]) (i1.out _) (Sup.cs_one _) ?_;intro w16 hr9 hg9
           have HK16:=Za (HDK.out.setS HE.out.1 HE.out.2.1 HE.out.2.2 hr9 (Chg.one hg9));have HC16:=Za (p:=Chg [gd,gm] w w16) ((chg_same HCW.out (Chg.one hg9)).wider (fun x hx=>.inl (by simp at hx ⊢;exact .inl hx)));have HW16:=Za (HWR.out.chg (Chg.one hg9) (by have:=HGX.out;simp;omega));obtain ⟨_,_,_,_,hdd⟩:=HDK.out.desk;have HO16:=Za (own_chg HO.out (Chg.one hg9) (fun x hx=>by rw [Zr] at hx;subst hx;exact row_parted hdd HO.out (by decide)));clear hr9 hg9 hdd))
      go_loopw [93] (fun y wq=>∃ q:Nat,Hid (q≤k)∧y=.int .i64 (q:Int)∧Hid (wq.ownsRow w.heap.size 110 256 (.slice A' k c') k (blks' bk k))∧Hid (DK b wq gd gv gm gs r Bs N (n+q) ((X'.setS S2).wrs (fun k=>R2 (first+k)) bk q))∧Hid (WR wq g5 g8 g11 g12 v R (S2.cs++ptl R2 L2))∧Hid (Chg [gd,gm] w wq)) (fun y _=>k - (intOf y).toNat)
      case atStart=>exact ⟨0,Za (Nat.zero_le _),rfl,HO16,HK16,HW16,HC16⟩
      case round =>
        obtain ⟨q,HQL,rfl,HOQ,HKQ,HWQ,HCQ⟩:=hrel
        rename World=>wq;by_cases hq:q<k
        · have hqi:(q:Int)<(k:Int):=by omega
          have hkf:=HK.out;obtain ⟨gB,rfl,hhol⟩:=blk_hol HOQ.out hq;obtain ⟨j,hj⟩:∃ j,first+q=j:=⟨_,rfl⟩
          have hjw:IntKind.i64.wrap ((first:Int)+(q:Int))=(j:Int):=by rw [Zg];omega
          have hj128:(j:Int)<128:=by omega
          obtain ⟨zq,hzq⟩:∃ zq,R2 j=zq:=⟨_,rfl⟩
          have cz:wq.drew.cell? ⟨g12,387+j,none⟩=some (.int .i64 zq):=by
            show wq.cell? ⟨g12,387+j,none⟩=_;rw [HWQ.out.r12.cell,Zm (by rw [Sup.cs_len];omega),Sup.cs_len,Nat.add_sub_cancel_left,ptl_row _ _ (by omega),hzq]
          have hqw:IntKind.i64.wrap ((q:Int)+1)=(q:Int)+1:=by rw [Zg];omega
          have hb:=HR2.out j (by omega);rw [hzq] at hb;have HPUT:=Za (dput (HKQ.out.below (below_drw wq)) ⟨some ⟨gB,q*256,none⟩,256,lst 256 (bk q)⟩ (by have h1:=hhol;rcases h1 with h1 | ⟨g1,o1,h2,h3⟩;exact .inl h1;exact .inr ⟨g1,o1,h2,h3⟩) (by rw [lst_len];decide) zq (by unfold I64;omega) (by have:=HN.out;omega));simp only [lst_len] at HPUT;have HWX:=Za (p:=((X'.setS S2).wrs (fun k=>R2 (first+k)) bk q).put zq (lst 256 (bk q))=(X'.setS S2).wrs (fun k=>R2 (first+k)) bk (q+1)) (by rw [← hzq, ← hj];rfl);have HQQ:=Za hq;clear hq hkf hhol hj hzq hb;go_wp2;refine Zq (S:=fun W=>W.cell? ⟨g12,387+j,none⟩=some (.int .i64 zq)) (by kernel_rfl) cz (fun hHeld=>?_);refine Ze (i:=0) (oi:=⟨some 96,.move (.tmp 0),_,_,_,_⟩) (v:=.pointer (some ⟨gd,0,none⟩)) rfl (by kernel_rfl) (by kernel_rfl) (by kernel_rfl) (fun _ _ _ h=>h) (.inl ⟨by rfl,fun w hSw=>by go_simp⟩) (by assumption) ?_;simp only [Act.put,Zb,Zc,Zd];refine Ze (i:=1) (oi:=⟨some 97,.move (.tmp 9),_,_,_,_⟩) (v:=.int .i64 (first:Int)) rfl (by kernel_rfl) (by kernel_rfl) (by kernel_rfl) (fun _ _ _ h=>h) (.inl ⟨by rfl,fun w hSw=>by go_simp⟩) (by assumption) ?_;simp only [Act.put,Zb,Zc,Zd];refine Ze (i:=2) (oi:=⟨some 98,.move (.tmp 15),_,_,_,_⟩) (v:=.int .i64 (q:Int)) rfl (by kernel_rfl) (by kernel_rfl) (by kernel_rfl) (fun _ _ _ h=>h) (.inl ⟨by rfl,fun w hSw=>by go_simp⟩) (by assumption) ?_;simp only [Act.put,Zb,Zc,Zd];refine Ze (i:=3) (oi:=⟨some 99,.binOp .add 3 (.tmp 97) (.tmp 98) 3,_,_,_,_⟩) (v:=.int .i64 (j:Int)) rfl (by kernel_rfl) (by kernel_rfl) (by kernel_rfl) (fun _ _ _ h=>h) (.inl ⟨by rfl,fun w hSw=>by go_simp⟩) (by assumption) ?_;simp only [Act.put,Zb,Zc,Zd];refine Ze (i:=4) (oi:=⟨some 100,.fieldAddr 106 (.tmp 12) 1,_,_,_,_⟩) (v:=.pointer (some ⟨g12,387,none⟩)) rfl (by kernel_rfl) (by kernel_rfl) (by kernel_rfl) (fun _ _ _ h=>h) (.inl ⟨by rfl,fun w hSw=>by go_simp⟩) (by assumption) ?_;simp only [Act.put,Zb,Zc,Zd];refine Ze (i:=5) (oi:=⟨some 101,.indexAddr 99 (.tmp 100) (.tmp 99),_,_,_,_⟩) (v:=.pointer (some ⟨g12,387+j,none⟩)) rfl (by kernel_rfl) (by kernel_rfl) (by kernel_rfl) (fun _ _ _ h=>h) (.inl ⟨by rfl,fun w hSw=>by go_simp⟩) (by assumption) ?_;simp only [Act.put,Zb,Zc,Zd];refine Ze (i:=6) (oi:=⟨some 102,.load 3 (.tmp 101),_,_,_,_⟩) (v:=.int .i64 zq) rfl (by kernel_rfl) (by kernel_rfl) (by kernel_rfl) (fun _ _ _ h=>h) (.inl ⟨by rfl,fun w hSw=>by have z:=hSw;go_simp⟩) (by assumption) ?_;simp only [Act.put,Zb,Zc,Zd];refine Ze (i:=7) (oi:=⟨some 103,.move (.tmp 13),_,_,_,_⟩) (v:=.slice (some ⟨gB,0,none⟩) k c') rfl (by kernel_rfl) (by kernel_rfl) (by kernel_rfl) (fun _ _ _ h=>h) (.inl ⟨by rfl,fun w hSw=>by go_simp⟩) (by assumption) ?_;simp only [Act.put,Zb,Zc,Zd];refine Ze (i:=8) (oi:=⟨some 104,.move (.tmp 15),_,_,_,_⟩) (v:=.int .i64 (q:Int)) rfl (by kernel_rfl) (by kernel_rfl) (by kernel_rfl) (fun _ _ _ h=>h) (.inl ⟨by rfl,fun w hSw=>by go_simp⟩) (by assumption) ?_;simp only [Act.put,Zb,Zc,Zd];refine Ze (i:=9) (oi:=⟨some 105,.indexAddr 108 (.tmp 103) (.tmp 104),_,_,_,_⟩) (v:=.pointer (some ⟨gB,q*256,none⟩)) rfl (by kernel_rfl) (by kernel_rfl) (by kernel_rfl) (fun _ _ _ h=>h) (.inl ⟨by rfl,fun w hSw=>by go_simp⟩) (by assumption) ?_;simp only [Act.put,Zb,Zc,Zd];refine Ze (i:=10) (oi:=⟨some 106,.slice 110 (.tmp 105) none none none,_,_,_,_⟩) (v:=.slice (some ⟨gB,q*256,none⟩) 256 256) rfl (by kernel_rfl) (by kernel_rfl) (by kernel_rfl) (fun _ _ _ h=>h) (.inl ⟨by rfl,fun w hSw=>by go_simp⟩) (by assumption) ?_;simp only [Act.put,Zb,Zc,Zd];refine Zp (rs:=[11]) (by kernel_rfl) (by simp) ?_;refine Zl (o:=⟨some 107,.call ⟨.value (.func 31),#[.tmp 96,.tmp 102,.tmp 106],_⟩,_,_,_,_⟩) rfl (fun K hK=>?_) Zo;go_simp;go_at_call 31;refine HPUT.out.mono ?_;rintro e w18 ⟨rfl,hk,hc⟩
          have hgm:∀ {t:TypeId} {g':Nat} {cs:List Value},Row wq g' t cs→g'≠gm:=fun hrr e=>by
            obtain ⟨C,hv,_⟩:=HKQ.out.view;exact hv.map.no_cells _ _ _ (e ▸ hrr.heap)
          have hc0:Chg [gd,gm] wq w18:=(Chg.of (F:=[gd,gm]) (below_drw wq)).trans hc.out (fun x hx=>.inl hx);have HK18:=Za (p:=DK b w18 gd gv gm gs r Bs N (n+(q+1)) ((X'.setS S2).wrs (fun k=>R2 (first+k)) bk (q+1))) (by rw [← HWX.out];exact hk.out);have HW18:=Za (HWQ.out.chg hc0 (by have h1:=HGX.out;have h5:=hgm HWQ.out.r5;have h8:=hgm HWQ.out.r8;have h11:=hgm HWQ.out.r11;have h12:=hgm HWQ.out.r12;simp;omega));have HC18:=Za (p:=Chg [gd,gm] w w18) (chg_same HCQ.out hc0)
          have HO18:=Za (p:=w18.ownsRow w.heap.size 110 256 (.slice (some ⟨gB,0,none⟩) k c') k (blks' bk k)) (own_chg HOQ.out hc0 (fun x hx=>by
            obtain ⟨_,_,_,_,hdd⟩:=HKQ.out.desk;obtain ⟨C,hv,_⟩:=HKQ.out.view;simp only [List.mem_cons,List.mem_nil_iff,or_false] at hx;rcases hx with rfl | rfl
            · exact row_parted hdd HOQ.out (by decide)
            · intro e;rcases HOQ.out.2 with ⟨h1,_⟩ | ⟨g',cap,cur,h1,_,h3,_⟩
              · cases h1
              · rw [h1] at e;simp only [Value.ownBlock,Option.some.injEq] at e;exact hv.map.no_cells _ _ _ (e ▸ h3)))
          have c18:w18.cell? ⟨g12,387+j,none⟩=some (.int .i64 zq):=(hc0.cell cz (by have h1:=HGX.out;have h12:=hgm HWQ.out.r12;simp;omega));clear hk hc hc0 hgm;refine hK.out _ _ c18 (fun _hH=>?_);clear hK K;refine Yg (by kernel_rfl) ?_ _;clear cz c18;go_wp2;go_roundw
          case rel=>exact ⟨q+1,HQQ,by go_num,HO18,HK18,HW18,HC18⟩
          case measure=>have:=HQQ.out;simp [intOf];omega
        · have hqz:¬ (q:Int)<(k:Int):=by omega
          have hqe:q=k:=by have:=HQL.out;omega
          subst hqe;have c5:=(HV.out _ _ HWQ.out.r5).2
          have HPU:=Za (dputlist v R R2 L2 S2 g12 HKQ.out HWQ.out.r12 (by have:=HGX.out;omega) HL2.out (fun j hj=>HR2.out (16+j) (by omega)) (by have:=HN.out;omega) (X2:=X2) (by
            have h1:=HPL.out
            have h2:v 26=v26:=by
              have h3:=(HV.out _ _ HWQ.out.r5).1;have h4:wq.cell? ⟨g5,26,none⟩=some (.int .i64 (v 26)):=(HWQ.out.r5.cell 26).trans rfl;rw [h4] at h3;injection h3 with h3
              injection h3
            rw [h2];exact h1))
          clear hq
          go_wp2_with (first
            | (refine step_load rfl 110 rfl 43 (.tmp 5) rfl g5 rfl (ncs v) _ HWQ.out.r5.all Yh rfl (i2.out _) ?_)
            | (refine step_load rfl 111 rfl 99 (.tmp 11) rfl g11 rfl (inl 128 R) _ HWQ.out.r11.all Yk rfl (i3.out _) ?_)
            | (go_at_call 49;refine HPU.out.mono ?_;rintro e w20 ⟨rfl,hk,hc⟩
               have hgm:∀ {t:TypeId} {g':Nat} {cs:List Value},Row wq g' t cs→g'≠gm:=fun hrr e=>by
                 obtain ⟨C,hv,_⟩:=HKQ.out.view;exact hv.map.no_cells _ _ _ (e ▸ hrr.heap)
               have HK20:=hk;have HC20:=Za (p:=Chg [gd,gm] w w20) (chg_same HCQ.out hc.out);have HW20:=Za (HWQ.out.chg hc.out (by have h1:=HGX.out;have h5:=hgm HWQ.out.r5;have h8:=hgm HWQ.out.r8;have h11:=hgm HWQ.out.r11;have h12:=hgm HWQ.out.r12;simp;omega));clear c5;have c5:=(HV.out _ _ HW20.out.r5).2;clear hk hc hgm)
            | (refine step_load rfl 113 rfl 43 (.tmp 5) rfl g5 rfl (ncs v) _ HW20.out.r5.all Yh rfl (i2.out _) ?_)
            | (refine wp_max rfl _ _ _ rfl _ _ z rfl rfl HZ.out ?_)
            | (go_at_call 50;refine (told_any v R2 S2 L2 z g12 w20 HW20.out.r12).mono ?_;rintro e w21 ⟨rfl,hb⟩;have HK21:=Za (HK20.out.below hb)
               have HC21:=Za (chg_nxt HC20.out hb);have HW21:=Za (HW20.out.below hb);clear hb)
            | (refine step_store rfl 43 (.tmp 8) (.tmp 121) rfl g8 (by rfl) _ _ (ncs (toldV v R2 L2 z)) (by rfl) HW21.out.r8 rfl (i2.out _) (ncs_one _) ?_;intro w22 hr9 hg9 hs9))
          refine Yd (results_cell_row rfl _ _ g8 _ _ _ _ rfl hr9 Yh rfl (by simpa using i2.out (toldV v R2 L2 z))) rfl ?_;exact ⟨rfl,Za (HK21.out.other HW21.out.r8 (by decide) (by have:=HLO.out;have:=HGX.out;omega) (Chg.one hg9)),Za (chg_own HC21.out HGX.out.2.2.1 (Chg.one hg9))⟩
end
end Go.Proofs.YtijffkklhgnknaaGreatDoor
