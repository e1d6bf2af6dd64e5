/- Words for memory: the bytes that a slice holds, and what appending bytes to a row of the call's own leaves. No conditions. -/
import Derived.Test.YtijffkklhgnknaaGreatDoorAz
import Derived.WalkKit
import Derived.Below
import Derived.Laws.OwnMore
import Derived.Maps.AppendAt
import Derived.Lib.AppendStr
import Derived.Laws.IdiomStrings
import Derived.Laws.BytesString
import Derived.Lib.Hide
import Derived.Laws.BitsAllLaws
import Derived.Deep.MidRow
import Derived.Deep.Draws
import Derived.Test.YtijffkklhgnknaaGreatDoorChecked
import Derived.WalkMore
import Derived.Deep.RegionLaw
import Derived.Deep.AppendLies
import Derived.BigQuiet
import Derived.Deep.QuietTactic
import Derived.Laws.CopyOwn
set_option maxHeartbeats 20000000
namespace Go.Proofs.YtijffkklhgnknaaGreatDoor
open Go.RowKit
def bc (l:List UInt8):List Value:=l.map fun b=>Value.int .u8 (b.toNat:Int)
theorem bc_len (l:List UInt8):(bc l).length=l.length:=by simp [bc]
theorem bc_app (a b:List UInt8):bc (a++b)=bc a++bc b:=by simp [bc]
theorem bc_one (l:List UInt8):∀ u ∈ bc l,u.oneCell'=true:=by
  intro u hu;obtain ⟨b,_,rfl⟩:=List.mem_map.1 hu;rfl
theorem bc_get {l:List UInt8} {j:Nat} {u:Value} (h:(bc l)[j]?=some u):∃ x,l[j]?=some x∧u=.int .u8 (x.toNat:Int):=by
  unfold bc at h;rw [List.getElem?_map] at h;obtain ⟨x,hx,rfl⟩:=Option.map_eq_some_iff.1 h;exact ⟨x,hx,rfl⟩
theorem get_bc {l:List UInt8} {j:Nat} {x:UInt8} (h:l[j]?=some x):(bc l)[j]?=some (.int .u8 (x.toNat:Int)):=by
  unfold bc;rw [List.getElem?_map,h];rfl
def Hol (w:World) (A:Option Addr) (l:List UInt8):Prop:=
  l=[]∨∃ g off,A=some ⟨g,off,none⟩∧∀ j x,l[j]?=some x→w.cell? ⟨g,off+j,none⟩=some (.int .u8 (x.toNat:Int))
section
variable {w w':World} {A:Option Addr} {l:List UInt8}
theorem Hol.none_:Hol w A []:=.inl rfl
theorem Hol.some_ (h:Hol w A l) (hl:0<l.length):∃ g off,A=some ⟨g,off,none⟩∧g<w.heap.size∧∀ j x,l[j]?=some x→w.cell? ⟨g,off+j,none⟩=some (.int .u8 (x.toNat:Int)):=by
  rcases h with rfl | ⟨g,off,rfl,hc⟩
  · simp at hl
  · exact ⟨g,off,rfl,Ya w _ (hc 0 l[0] (Zh hl)),hc⟩
theorem Hol.at_ (h:Hol w A l) {j:Nat} (hj:j<l.length):∃ g off,A=some ⟨g,off,none⟩∧g<w.heap.size∧w.cell? ⟨g,off+j,none⟩=some (.int .u8 ((l[j]'hj).toNat:Int)):=by
  obtain ⟨g,off,rfl,hg,hc⟩:=h.some_ (by omega);exact ⟨g,off,rfl,hg,hc j _ (Zh hj)⟩
theorem Hol.grown (h:Hol w A l) {row:Option Nat} (hg:w.grownBy w' row) (hr:∀ g off,A=some ⟨g,off,none⟩→some g≠row):Hol w' A l:=by
  rcases h with rfl | ⟨g,off,rfl,hc⟩
  · exact .inl rfl
  · exact .inr ⟨g,off,rfl,fun j x hx=>hg.cell (hc j x hx) (hr g off rfl)⟩
theorem Hol.below (h:Hol w A l) (hb:Below w.heap.size w w'):Hol w' A l:=by
  rcases h with rfl | ⟨g,off,rfl,hc⟩
  · exact .inl rfl
  · exact .inr ⟨g,off,rfl,fun j x hx=>(hb.cell (p:=⟨g,off+j,none⟩) (Ya w _ (hc j x hx))).trans (hc j x hx)⟩
theorem Hol.take_ (h:Hol w A l) (n:Nat):Hol w A (l.take n):=by
  rcases h with rfl | ⟨g,off,rfl,hc⟩
  · exact .inl (by simp)
  · refine .inr ⟨g,off,rfl,fun j x hx=>hc j x ?_⟩;rw [List.getElem?_take] at hx
    split at hx
    · exact hx
    · cases hx
theorem Hol.cut {cap:Nat} (h:Hol w A l) (n:Nat) (hc:l.length≤cap):Hol w (if cap=n then A else A.map (·.add n)) (l.drop n):=by
  by_cases hn:l.length≤n
  · exact .inl (List.drop_eq_nil_of_le hn)
  · rw [if_neg (by omega)];rcases h with rfl | ⟨g,off,rfl,hcell⟩
    · exact .inl (by simp)
    · refine .inr ⟨g,off+n,?_,fun j x hx=>?_⟩
      · show some ((⟨g,off,none⟩:Addr).add n)=_;unfold Addr.add
        split <;> simp_all
      · rw [List.getElem?_drop] at hx;have:=hcell (n+j) x hx;rw [← Nat.add_assoc] at this;exact this
theorem Hol.own {base:Nat} {e:TypeId} {n c:Nat} (h:w.ownsRow base e 1 (.slice A n c) n (bc l)):Hol w A l:=by
  by_cases hl:l=[]
  · exact .inl hl
  · rcases h.2 with ⟨h1,h2⟩ | ⟨g,cap,cur,h1,hb,hg,hn,hc,hs,ht⟩
    · have:=h.1;rw [bc_len] at this;exact absurd (Zk (by omega)) hl
    · simp only [Value.slice.injEq] at h1;obtain ⟨rfl,_,rfl⟩:=h1;refine .inr ⟨g,0,rfl,fun j x hx=>?_⟩;have:=h.cells (g:=g) rfl j _ (get_bc hx);rw [show (⟨g,0+j,none⟩:Addr)=(⟨g,0,none⟩:Addr).add j by unfold Addr.add;split <;> simp_all];exact this
end
theorem below_of_grown {w w':World} (h:w.grownBy w' none):Below w.heap.size w w':=⟨h.os,h.tape,h.output,h.size,fun k hk=>h.block k hk (by simp)⟩
theorem grown_of_below {w w':World} {row:Option Nat} (h:Below w.heap.size w w'):w.grownBy w' row:=⟨h.os,h.tape,h.output,h.size,fun k hk _=>h.block k hk⟩
theorem grown_trans {a b c:World} {row:Option Nat} (h:a.grownBy b row) (k:b.grownBy c row):a.grownBy c row:=
  ⟨k.os.trans h.os,k.tape.trans h.tape,k.output.trans h.output,Nat.le_trans h.size k.size,fun i hi hr=>(k.block i (Yc hi h.size) hr).trans (h.block i hi hr)⟩
theorem grown_set (w:World) (p:Addr) (u:Value):w.grownBy (w.setCell p u) (some p.block):=
  ⟨rfl,rfl,rfl,by simp [World.setCell],fun k _ hne=>Below.heap_setCell w p u k (fun e=>hne (by rw [e]))⟩
theorem heap_set {w:World} {g:Nat} {cs:Array Value} {t:TypeId} {fr:Nat × Nat} (h:w.heap[g]?=some (.cells cs t fr)) (i:Nat) (u:Value):
    (w.setCell ⟨g,i,none⟩ u).heap[g]?=some (.cells (cs.setIfInBounds i u) t fr):=by simp [World.setCell,Array.getElem?_modify,h]
structure U8 (P:Program) (t e:TypeId) (i:TypeInfo):Prop where
  ht:P.underlying t=some (.slice e)
  hi:P.info? e=some i
  hz:i.zero=some (.int .u8 0)
  h1:i.size=1
  h2:i.bytes=1
section
variable {P:Program} (w:World)
theorem run_app_none (t ty e:TypeId) (i:TypeInfo) (U:U8 P t e i) (base:Nat) (v:Value) (n:Nat) (xs:List Value) (hown:w.ownsRow base e 1 v n xs) (c:Nat):
    (Builtin.append_ #[t,t] ty #[v,.slice none 0 c]).run P w=.ok v w:=by
  rcases hown.2 with ⟨rfl,rfl⟩ | ⟨g,cap,cur,rfl,_,_,hnc,_⟩
  · simp [Builtin.append_,run_underlying U.ht,sizeOf,typeInfo,U.hi,Builtin.lenOf,Builtin.firstCells]
  · simp [Builtin.append_,run_underlying U.ht,sizeOf,typeInfo,U.hi,Builtin.lenOf,Builtin.firstCells,hnc,storeCells]
theorem run_app (t ty e:TypeId) (i:TypeInfo) (U:U8 P t e i) (base:Nat) (v:Value) (n:Nat) (xs:List Value) (hown:w.ownsRow base e 1 v n xs)
    (A:Option Addr) (m c:Nat) (l:List UInt8) (hm:m=l.length) (hA:Hol w A l) (hnil:A=none∨True) (hb:n+m≤140737488355328) (hbase:base≤w.heap.size):
    ∃ v' w',(Builtin.append_ #[t,t] ty #[v,.slice A m c]).run P w=.ok v' w'∧w'.ownsRow base e 1 v' (n+m) (xs++bc l)∧w.grownBy w' v.ownBlock∧
      (v'.ownBlock=v.ownBlock∨v'.ownBlock=some w.heap.size):=by
  subst hm;rcases A with _ | ad
  · have hl:l=[]:=by
      rcases hA with h | ⟨g,off,h,_⟩
      · exact h
      · cases h
    subst hl;exact ⟨v,w,run_app_none w t ty e i U base v n xs hown c,by simpa [bc] using hown,⟨rfl,rfl,rfl,Zj _,fun _ _ _=>rfl⟩,.inl rfl⟩
  · have hcells:∀ j u,(bc l)[j]?=some u→w.cell? (ad.add j)=some u:=by
      intro j u hu;obtain ⟨x,hx,rfl⟩:=bc_get hu;rcases hA with rfl | ⟨g,off,h,hc⟩
      · simp at hx
      · injection h with h
        subst h;have:=hc j x hx;rw [show (⟨g,off,none⟩:Addr).add j=⟨g,off+j,none⟩ by unfold Addr.add;split <;> simp_all];exact this
    obtain ⟨v',w',hr,h2,h3,_,h5⟩:=run_append_own_at (P:=P) w base t ty e i (.int .u8 0) 1 1 U.ht U.hi U.hz U.h1 U.h2 rfl (by decide) v n xs hown ad l.length c (bc l) (by rw [bc_len,Nat.mul_one]) hcells (bc_one l)
      (by unfold maxLen;omega) (by omega) hbase
    exact ⟨v',w',hr,h2,h3,h5⟩
theorem wpList_app {ops:Array Oper} {rest:List Oper} {o:Oper} {a:Act} {Q:Exit→Act→World→Prop} (hgd:o.guard=none) (s x:Operand) (t:TypeId)
    (ho:o.op=.call { callee:=.builtin .append,args:=#[s,x],argTypes:=#[t,t] })
    (e:TypeId) (i:TypeInfo) (U:U8 P t e i) (base:Nat) (v:Value) (n:Nat) (xs:List Value) (hs:a.eval s=v) (hown:w.ownsRow base e 1 v n xs)
    (A:Option Addr) (m c:Nat) (l:List UInt8) (hx:a.eval x=.slice A m c) (hm:m=l.length) (hA:Hol w A l) (hb:n+m≤140737488355328) (hbase:base≤w.heap.size)
    (h:∀ v' w',w'.ownsRow base e 1 v' (n+m) (xs++bc l)→w.grownBy w' v.ownBlock→(v'.ownBlock=v.ownBlock∨v'.ownBlock=some w.heap.size)→wpList P ops Q rest (a.put o.dst v') w'):
    wpList P ops Q (o::rest) a w:=by
  refine wpList_plain hgd fun K hK=>?_;obtain ⟨v',w',hr,h2,h3,h4⟩:=run_app (P:=P) w t o.type e i U base v n xs hown A m c l hm hA (.inr trivial) hb hbase;unfold Oper.wp execOp;simp only [ho,resolve,invoke,builtin,Sem.run_bind,Sem.run_pure,Zw,List.map_toArray,List.map_cons,List.map_nil,hs,hx,hr];exact hK _ _ (h v' w' h2 h3 h4)
end
theorem run_to_string {P:Program} (w:World) (src dst e:TypeId) (A:Option Addr) (c n:Nat) (l:List UInt8) (hn:n=l.length) (hs:P.underlying src=some (.slice e)) (he:P.underlying e=some (.int .u8)) (hd:P.underlying dst=some .string)
    (hA:Hol w A l):(convert src dst (.slice A n c)).run P w=.ok (.string ⟨l.toArray⟩) w:=by
  subst hn;by_cases hl:l=[]
  · subst hl;rw [run_convert_bytes_string w src dst e A _ c hs he hd];cases A <;> simp [Conv.bytesToString,loadCells]
    all_goals rfl
  · rcases hA with h | ⟨g,off,rfl,hc⟩
    · exact absurd h hl
    · refine run_convert_bytes_back w src dst e ⟨g,off,none⟩ c l hs he hd fun j hj=>?_;rw [show (⟨g,off,none⟩:Addr).add j=⟨g,off+j,none⟩ by unfold Addr.add;split <;> simp_all];exact hc j _ (Zh hj)
theorem own_form {w:World} {base:Nat} {e:TypeId} {v:Value} {n:Nat} {l:List UInt8} (h:w.ownsRow base e 1 v n (bc l)):
    n=l.length∧∃ A c,v=.slice A l.length c∧l.length≤c∧c≤maxLen∧Hol w A l:=by
  have hn:n=l.length:=by have:=h.1;rw [bc_len] at this;omega
  subst hn;refine ⟨rfl,?_⟩;rcases h.2 with ⟨rfl,h0⟩ | ⟨g,cap,cur,rfl,hb,hg,hn,hc,hs,ht⟩
  · rw [h0];exact ⟨none,0,rfl,Zj _,by decide,.inl (Zk h0)⟩
  · exact ⟨_,cap,rfl,hn,hc,Hol.own h⟩
end Go.Proofs.YtijffkklhgnknaaGreatDoor
/- Lists in order by a key,those of one key as they stood. No conditions but those named. -/
set_option linter.unusedVariables false
namespace Go.Proofs.YtijffkklhgnknaaGreatDoor
section
variable {α:Type} (key:α→Nat)
def Ord (l:List α):Prop:=l.Pairwise fun x y=>key x≤key y
def SameK (l m:List α):Prop:=∀ c,m.filter (fun x=>key x==c)=l.filter (fun x=>key x==c)
variable {key}
theorem filter_pos {p:α→Bool} {x:α} (l:List α) (h:p x=true):(x::l).filter p=x::l.filter p:=List.filter_cons_of_pos h
theorem filter_neg {p:α→Bool} {x:α} (l:List α) (h:p x=false):(x::l).filter p=l.filter p:=List.filter_cons_of_neg (by rw [h];decide)
theorem SameK.refl (l:List α):SameK key l l:=fun _=>rfl
theorem SameK.symm {l m:List α} (h:SameK key l m):SameK key m l:=fun c=>(h c).symm
theorem SameK.trans {l m n:List α} (h:SameK key l m) (k:SameK key m n):SameK key l n:=fun c=>(k c).trans (h c)
theorem SameK.app {l m l' m':List α} (h:SameK key l m) (h':SameK key l' m'):SameK key (l++l') (m++m'):=fun c=>by
  rw [List.filter_append,List.filter_append,h c,h' c]
theorem SameK.mem {l m:List α} (h:SameK key l m) (x:α):x ∈ m↔x ∈ l:=by
  have h1:=h (key x);constructor
  · intro hx;have h2:x ∈ m.filter (fun y=>key y==key x):=List.mem_filter.2 ⟨hx,beq_self_eq_true _⟩;rw [h1] at h2;exact (List.mem_filter.1 h2).1
  · intro hx;have h2:x ∈ l.filter (fun y=>key y==key x):=List.mem_filter.2 ⟨hx,beq_self_eq_true _⟩;rw [← h1] at h2;exact (List.mem_filter.1 h2).1
theorem SameK.swap {l m:List α} (h:∀ x ∈ l,∀ y ∈ m,key x≠key y):SameK key (l++m) (m++l):=fun c=>by
  rw [List.filter_append,List.filter_append];by_cases hl:∃ x ∈ l,key x=c
  · obtain ⟨x,hx,rfl⟩:=hl;have e:m.filter (fun y=>key y==key x)=[]:=List.filter_eq_nil_iff.2 fun y hy hk=>h x hx y hy (beq_iff_eq.1 hk).symm;rw [e,Zy,Zt]
  · have e:l.filter (fun y=>key y==c)=[]:=List.filter_eq_nil_iff.2 fun y hy hk=>hl ⟨y,hy,beq_iff_eq.1 hk⟩;rw [e,Zy,Zt]
theorem Ord.nil:Ord key ([]:List α):=List.Pairwise.nil
theorem Ord.one (x:α):Ord key [x]:=List.pairwise_singleton ..
theorem Ord.app {l m:List α} (h:Ord key l) (k:Ord key m) (hh:∀ x ∈ l,∀ y ∈ m,key x≤key y):Ord key (l++m):=List.pairwise_append.2 ⟨h,k,hh⟩
theorem Ord.left {l m:List α} (h:Ord key (l++m)):Ord key l:=(List.pairwise_append.1 h).1
theorem Ord.right {l m:List α} (h:Ord key (l++m)):Ord key m:=(List.pairwise_append.1 h).2.1
theorem Ord.across {l m:List α} (h:Ord key (l++m)):∀ x ∈ l,∀ y ∈ m,key x≤key y:=(List.pairwise_append.1 h).2.2
theorem Ord.get {l:List α} (h:Ord key l) {i j:Nat} {x y:α} (hx:l[i]?=some x) (hy:l[j]?=some y) (hij:i≤j):key x≤key y:=by
  obtain ⟨hi,rfl⟩:=Zn.1 hx;obtain ⟨hj,rfl⟩:=Zn.1 hy;rcases Nat.lt_or_eq_of_le hij with h1 | h1
  · exact List.pairwise_iff_getElem.1 h i j hi hj h1
  · subst h1;exact Zj _
theorem ord_one:∀ (l m:List α),Ord key l→Ord key m→SameK key l m→l=m
  | [],m,_,_,h=>by
    cases m with
    | nil=>rfl
    | cons y m=>
      have h1:=(h.mem y).1 (List.mem_cons_self ..);cases h1
  | x :: l,m,hl,hm,h=>by
    cases m with
    | nil=>
      have h1:=(h.mem x).2 (List.mem_cons_self ..);cases h1
    | cons y m=>
      have hl':=List.pairwise_cons.1 hl;have hm':=List.pairwise_cons.1 hm
      have hk:key x=key y:=by
        have h1:key x≤key y:=by
          rcases List.mem_cons.1 ((h.mem y).1 (List.mem_cons_self ..)) with e | e
          · rw [e];exact Zj _
          · exact hl'.1 y e
        have h2:key y≤key x:=by
          rcases List.mem_cons.1 ((h.mem x).2 (List.mem_cons_self ..)) with e | e
          · rw [e];exact Zj _
          · exact hm'.1 x e
        omega
      have h1:=h (key x);rw [filter_pos m (show (fun z=>key z==key x) y=true from beq_iff_eq.2 hk.symm),filter_pos l (show (fun z=>key z==key x) x=true from beq_self_eq_true _)] at h1;injection h1 with e _
      subst e
      have h2:SameK key l m:=fun c=>by
        have h3:=h c;by_cases hc:key y=c
        · rw [filter_pos m (show (fun z=>key z==c) y=true from beq_iff_eq.2 hc),filter_pos l (show (fun z=>key z==c) y=true from beq_iff_eq.2 hc)] at h3;injection h3
        · rw [filter_neg m (show (fun z=>key z==c) y=false from beq_false_of_ne hc),filter_neg l (show (fun z=>key z==c) y=false from beq_false_of_ne hc)] at h3;exact h3
      rw [ord_one l m hl'.2 hm'.2 h2]
theorem SameK.ins {l m:List α} {x:α} (h:∀ y ∈ m,key y≠key x):SameK key (l++m++[x]) (l++x::m):=by
  have h1:SameK key (m++[x]) ([x]++m):=SameK.swap (fun y hy z hz=>by rw [Zr] at hz;subst hz;exact h y hy);have h2:=(SameK.refl (key:=key) l).app h1;rw [← Zi] at h2;exact h2
theorem SameK.len {l m:List α} (h:SameK key l m):l.length=m.length:=by
  induction l generalizing m with
  | nil=>
    cases m with
    | nil=>rfl
    | cons y m=>exact absurd ((h.mem y).1 (List.mem_cons_self ..)) (by simp)
  | cons x l ih=>
    have hx:=(h.mem x).2 (List.mem_cons_self ..);have h1:=h (key x);rw [filter_pos l (show (fun z=>key z==key x) x=true from beq_self_eq_true _)] at h1
    obtain ⟨A,y,B,hm,hA,hy⟩:∃ A y B,m=A++y::B∧(∀ z ∈ A,key z≠key x)∧key y=key x:=by
      clear h ih h1
      induction m with
      | nil=>cases hx
      | cons z m ihm=>
        by_cases hz:key z=key x
        · exact ⟨[],z,m,rfl,fun _ h=>(by cases h),hz⟩
        · rcases List.mem_cons.1 hx with e | e
          · exact absurd (by rw [e]) hz
          · obtain ⟨A,y,B,rfl,h2,h3⟩:=ihm e;exact ⟨z::A,y,B,rfl,fun q hq=>by rcases List.mem_cons.1 hq with e2 | e2;exact e2 ▸ hz;exact h2 q e2,h3⟩
    subst hm;have e1:A.filter (fun z=>key z==key x)=[]:=List.filter_eq_nil_iff.2 fun z hz hk=>hA z hz (beq_iff_eq.1 hk);rw [List.filter_append,e1,Zt,filter_pos B (show (fun z=>key z==key x) y=true from beq_iff_eq.2 hy)] at h1;injection h1 with e2 h1
    subst e2
    have h3:SameK key l (A++B):=fun c=>by
      have h4:=h c;rw [List.filter_append,List.filter_cons,List.filter_cons] at h4;rw [List.filter_append];by_cases hc:key y=c
      · subst hc;rw [e1,Zt];rw [e1,Zt,if_pos (beq_self_eq_true _),if_pos (beq_self_eq_true _)] at h4;injection h4
      · rw [if_neg (by simpa using hc),if_neg (by simpa using hc)] at h4;exact h4
    have h5:=ih h3;simp only [Zf,List.length_cons] at h5 ⊢;omega
end
end Go.Proofs.YtijffkklhgnknaaGreatDoor
/- Plain facts:the digest of the document in words of 32 bits,and what one operation makes of words. No program is in sight here,and no conditions. -/
namespace Go.Proofs.YtijffkklhgnknaaGreatDoor
def uv (x:UInt32):Int:=(x.toNat:Int)
def bv (x:UInt8):Int:=(x.toNat:Int)
abbrev U (x:UInt32):Value:=.int .u32 (uv x)
abbrev B (x:UInt8):Value:=.int .u8 (bv x)
def shr (x:UInt32) (n:Nat):UInt32:=UInt32.ofNat (x.toNat / 2 ^ n)
def shl (x:UInt32) (n:Nat):UInt32:=UInt32.ofNat (x.toNat*2 ^ n)
def rot (x:UInt32) (n:Nat):UInt32:=shr x n ||| shl x (32 - n)
def t1 (e f g h k w:UInt32):UInt32:=h+(rot e 6 ^^^ rot e 11 ^^^ rot e 25)+((e &&& f) ^^^ (~~~e &&& g))+k+w
def t2 (a b c:UInt32):UInt32:=(rot a 2 ^^^ rot a 13 ^^^ rot a 22)+((a &&& b) ^^^ (a &&& c) ^^^ (b &&& c))
theorem u32_toNat (n:Nat):(UInt32.ofNat n).toNat=n % 4294967296:=UInt32.toNat_ofNat' ..
theorem u32_lt (x:UInt32):x.toNat<4294967296:=UInt32.toNat_lt x
theorem u8_lt (x:UInt8):x.toNat<256:=UInt8.toNat_lt x
theorem wrap_add (x y:UInt32):IntKind.u32.wrap ((x.toNat:Int)+y.toNat)=((x+y).toNat:Int):=by
  have:=UInt32.toNat_add x y;rw [IntKind.wrap_u32'];omega
theorem wrap_mul (x y:UInt32):IntKind.u32.wrap ((x.toNat:Int)*y.toNat)=((x*y).toNat:Int):=by
  have:=UInt32.toNat_mul x y;rw [IntKind.wrap_u32',this];simp
theorem xor_u32 (x y:UInt32):bits .xor .u32 (x.toNat:Int) (y.toNat:Int)=((x ^^^ y).toNat:Int):=by
  rw [u32_xor_nat _ _ (u32_lt x) (u32_lt y),UInt32.toNat_xor]
theorem and_u32 (x y:UInt32):bits .and .u32 (x.toNat:Int) (y.toNat:Int)=((x &&& y).toNat:Int):=by
  rw [u32_and_nat _ _ (u32_lt x) (u32_lt y),UInt32.toNat_and]
theorem or_u32 (x y:UInt32):bits .or .u32 (x.toNat:Int) (y.toNat:Int)=((x ||| y).toNat:Int):=by
  rw [u32_or_nat _ _ (u32_lt x) (u32_lt y),UInt32.toNat_or]
theorem not_u32 (x:UInt32):bits .xor .u32 (4294967295:Int) (x.toNat:Int)=((~~~x).toNat:Int):=by
  have h:(4294967295:Int)=((4294967295:UInt32).toNat:Int):=by decide
  rw [h,xor_u32];congr 2
section
variable (x y:UInt32) (v:UInt8)
theorem uv_add:IntKind.u32.wrap (uv x+uv y)=uv (x+y):=wrap_add x y
theorem uv_add':(uv x+uv y) % 4294967296=uv (x+y):=by rw [← uv_add,IntKind.wrap_u32']
theorem uv_mul:IntKind.u32.wrap (uv x*256)=uv (x*256):=wrap_mul x 256
theorem uv_mul':(uv x*256) % 4294967296=uv (x*256):=by rw [← uv_mul,IntKind.wrap_u32']
theorem uv_xor:bits .xor .u32 (uv x) (uv y)=uv (x ^^^ y):=xor_u32 x y
theorem uv_and:bits .and .u32 (uv x) (uv y)=uv (x &&& y):=and_u32 x y
theorem uv_or:bits .or .u32 (uv x) (uv y)=uv (x ||| y):=or_u32 x y
theorem uv_not:bits .xor .u32 4294967295 (uv x)=uv (~~~x):=not_u32 x
theorem uv_not':bits .xor .u32 (if IntKind.u32.signed=true then -1 else IntKind.u32.max) (uv x)=uv (~~~x):=not_u32 x
theorem uv_shr (n:Nat):uv x / 2 ^ n=uv (shr x n):=by
  have hx:=u32_lt x;unfold uv shr;rw [u32_toNat,Nat.mod_eq_of_lt (Nat.lt_of_le_of_lt (Nat.div_le_self _ _) hx)];simp
theorem uv_shr3:uv x / 8=uv (shr x 3):=uv_shr x 3
theorem uv_shr10:uv x / 1024=uv (shr x 10):=uv_shr x 10
theorem uv_shr8:uv x / 256=uv (shr x 8):=uv_shr x 8
theorem uv_shr16:uv x / 65536=uv (shr x 16):=uv_shr x 16
theorem uv_shr24:uv x / 16777216=uv (shr x 24):=uv_shr x 24
theorem uv_to8:IntKind.u8.wrap (uv x)=bv x.toUInt8:=by
  unfold uv bv;rw [UInt32.toNat_toUInt8,IntKind.wrap_u8'];omega
theorem uv_to8':uv x % 256=bv x.toUInt8:=by rw [← uv_to8,IntKind.wrap_u8']
theorem bv_to32:IntKind.u32.wrap (bv v)=uv v.toUInt32:=by
  have:=u8_lt v;unfold uv bv;rw [UInt8.toNat_toUInt32,IntKind.wrap_u32'];omega
theorem bv_to32':bv v % 4294967296=uv v.toUInt32:=by rw [← bv_to32,IntKind.wrap_u32']
end
attribute [go_sem] uv_add uv_add' uv_mul uv_mul' uv_xor uv_and uv_or uv_not uv_not' uv_shr3 uv_shr10 uv_shr8 uv_shr16 uv_shr24 uv_to8 uv_to8' bv_to32 bv_to32'
def arr (n:Nat) (f:Nat→UInt32):List Value:=(List.range n).map fun j=>U (f j)
def brr (n:Nat) (f:Nat→UInt8):List Value:=(List.range n).map fun j=>B (f j)
def upd {α:Type} (f:Nat→α) (i:Nat) (x:α):Nat→α:=fun j=>if j=i then x else f j
theorem brr_len (n:Nat) (f:Nat→UInt8):(brr n f).length=n:=by simp [brr]
theorem brr_get {n j:Nat} (f:Nat→UInt8) (h:j<n):(brr n f)[j]?=some (B (f j)):=by simp [brr,h]
theorem brr_none {n j:Nat} (f:Nat→UInt8) (h:n≤j):(brr n f)[j]?=none:=by simp [brr,h]
theorem brr_one (n:Nat) (f:Nat→UInt8):∀ u ∈ brr n f,u.oneCell'=true:=by
  intro u hu;obtain ⟨b,_,rfl⟩:=List.mem_map.1 hu;rfl
theorem brr_congr {n:Nat} {f g:Nat→UInt8} (h:∀ j,j<n→f j=g j):brr n f=brr n g:=by
  unfold brr;refine List.map_congr_left fun j hj=>?_;rw [h j (by simpa using hj)]
theorem brr_set (n i:Nat) (f:Nat→UInt8) (x:UInt8):(brr n f).set i (B x)=brr n (upd f i x):=by
  apply List.ext_getElem?;intro j;by_cases hj:j<n
  · rw [brr_get _ hj,List.getElem?_set];by_cases e:i=j
    · subst e;rw [if_pos rfl,if_pos (by rw [brr_len];exact hj)];simp [upd]
    · rw [if_neg e,brr_get _ hj];simp [upd,Ne.symm e]
  · rw [brr_none _ (by omega),List.getElem?_eq_none (by rw [List.length_set,brr_len];omega)]
def ap (x:UInt32) (b:UInt8):UInt32:=x*256+b.toUInt32
def wd (b:Nat→UInt8) (i:Nat):UInt32:=ap (ap (ap (ap 0 (b (4*i))) (b (4*i+1))) (b (4*i+2))) (b (4*i+3))
def ksL:List UInt32:=[
  1116352408,1899447441,3049323471,3921009573,961987163,1508970993,2453635748,2870763221,
  3624381080,310598401,607225278,1426881987,1925078388,2162078206,2614888103,3248222580,
  3835390401,4022224774,264347078,604807628,770255983,1249150122,1555081692,1996064986,
  2554220882,2821834349,2952996808,3210313671,3336571891,3584528711,113926993,338241895,
  666307205,773529912,1294757372,1396182291,1695183700,1986661051,2177026350,2456956037,
  2730485921,2820302411,3259730800,3345764771,3516065817,3600352804,4094571909,275423344,
  430227734,506948616,659060556,883997877,958139571,1322822218,1537002063,1747873779,
  1955562222,2024104815,2227730452,2361852424,2428436474,2756734187,3204031479,3329325298]
def kk (j:Nat):UInt32:=ksL.getD j 0
structure S8 where
  (a b c d e f g h:UInt32)
def S8.at (s:S8):Nat→UInt32
  | 0=>s.a | 1=>s.b | 2=>s.c | 3=>s.d | 4=>s.e | 5=>s.f | 6=>s.g | 7=>s.h | _=>0
def h0:S8:=⟨0x6a09e667,0xbb67ae85,0x3c6ef372,0xa54ff53a,0x510e527f,0x9b05688c,0x1f83d9ab,0x5be0cd19⟩
attribute [irreducible] arr brr
end Go.Proofs.YtijffkklhgnknaaGreatDoor
/- Words for memory:a block that is known whole,and cells in the midst of one. No conditions. -/
namespace Go.Proofs.YtijffkklhgnknaaGreatDoor
open Go.RowKit
def Row (w:World) (g:Nat) (t:TypeId) (cs:List Value):Prop:=w.heap[g]?=some (.cells cs.toArray t (0,0))
section
variable {w w':World} {g:Nat} {t:TypeId} {cs:List Value}
theorem Row.heap (h:Row w g t cs):w.heap[g]?=some (.cells cs.toArray t (0,0)):=h
theorem Row.lt (h:Row w g t cs):g<w.heap.size:=(Array.getElem?_eq_some_iff.1 h).1
theorem Row.cell (h:Row w g t cs) (i:Nat):w.cell? ⟨g,i,none⟩=cs[i]?:=by
  have:=cell_of_row w g i cs.toArray t (0,0) h;simpa using this
theorem Row.free (h:Row w g t cs) (i:Nat):w.frozen? ⟨g,i,none⟩=false:=by
  have h':=h.heap;simp [World.frozen?,h']
theorem Row.made (w:World) (t:TypeId) (cs:List Value):Row (w.alloc (.cells cs.toArray t)) w.heap.size t cs:=heap_alloc_new w _
theorem Row.drew (h:Row w g t cs):Row w.drew g t cs:=h
theorem Row.drewN (h:Row w g t cs) (n:Nat):Row (w.drewN n) g t cs:=h
theorem Row.alloc (h:Row w g t cs) (o:Obj):Row (w.alloc o) g t cs:=(Below.heap_alloc w o g h.lt).trans h
theorem Row.put (h:Row w g t cs) (i:Nat) (u:Value):Row (w.setCell ⟨g,i,none⟩ u) g t (cs.set i u):=by
  have h':=heap_set h i u;unfold Row;rw [h'];congr 2;apply Array.ext';simp
theorem Row.far (h:Row w g t cs) {p:Addr} (hp:g≠p.block) (u:Value):Row (w.setCell p u) g t cs:=(Below.heap_setCell w p u g hp).trans h
theorem Row.below {n:Nat} (h:Row w g t cs) (hb:Below n w w') (hg:g<n):Row w' g t cs:=(hb.block g hg).trans h
theorem Row.kept (h:Row w g t cs) (hb:Below w.heap.size w w'):Row w' g t cs:=(hb.block g h.lt).trans h
theorem Row.grown {row:Option Nat} (h:Row w g t cs) (hb:w.grownBy w' row) (hg:some g≠row):Row w' g t cs:=(hb.block g h.lt hg).trans h
theorem Row.range (h:Row w g t cs) (o n:Nat):w.rangeAt g o ((cs.drop o).take n):=fun j v hv=>by
  rw [h.cell];rw [List.getElem?_take] at hv
  split at hv
  · rw [List.getElem?_drop] at hv;exact hv
  · cases hv
theorem Row.all (h:Row w g t cs):w.rangeAt g 0 cs:=fun j v hv=>by
  rw [h.cell,Nat.zero_add];exact hv
theorem Row.is_there (h:Row w g t cs) (o n:Nat) (hn:o+n≤cs.length):w.there g o n:=fun j hj=>⟨by rw [h.cell,Zh (by omega)];rfl,h.free _⟩
theorem Row.ne_ {g':Nat} {t':TypeId} {cs':List Value} (h:Row w g t cs) (h':Row w g' t' cs') (hne:t≠t'):g≠g':=by
  rintro rfl;unfold Row at h h';rw [h] at h';injection h' with h'
  injection h' with _ ht
  exact hne ht
end
theorem below_drewN {n:Nat} {w w':World} (h:Below n w w') (k:Nat):Below n w (w'.drewN k):=⟨h.os,h.tape,h.output,h.size,h.block⟩
section
variable {P:Program} {ops:Array Oper} {rest:List Oper} {o:Oper} {a:Act} {w:World} {Q:Exit→Act→World→Prop}
theorem step_alloc (hgd:o.guard=none) (d:Tmp) (hd:o.dst=some d) (t:TypeId) (ho:o.op=.alloc t) (cs:List Value) (hz:∀ w:World,(zeroValue t).run P w=.ok (.agg cs.toArray) w)
    (h:∀ g w',Row w' g t cs→Hid (g=w.heap.size)→Below w.heap.size w w'→Hid (w'.heap.size=w.heap.size+1)→wpList P ops Q rest (a.put o.dst (.pointer (some ⟨g,0,none⟩))) w'):wpList P ops Q (o::rest) a w:=by
  refine wpList_plain hgd fun K hK=>?_;unfold Oper.wp execOp;simp only [ho];simp [Instr.alloc,hz,newVar,go_sem];exact hK _ _ (h _ _ (Row.made w t cs) (show _=_ from rfl) ((Below.refl _ _).alloc (Zj _) _) (show _=_ by simp))
theorem step_box (hgd:o.guard=none) (d:Tmp) (hd:o.dst=some d) (t:TypeId) (x:Operand) (ho:o.op=.box t x) (cs:List Value) (hx:a.eval x=.agg cs.toArray)
    (h:∀ g w',Row w' g t cs→Hid (g=w.heap.size)→Below w.heap.size w w'→Hid (w'.heap.size=w.heap.size+1)→wpList P ops Q rest (a.put o.dst (.pointer (some ⟨g,0,none⟩))) w'):wpList P ops Q (o::rest) a w:=by
  refine wpList_plain hgd fun K hK=>?_;unfold Oper.wp execOp;simp only [ho,hx];simp [Instr.box,newVar,go_sem];exact hK _ _ (h _ _ (Row.made w t cs) (show _=_ from rfl) ((Below.refl _ _).alloc (Zj _) _) (show _=_ by simp))
theorem step_load (hgd:o.guard=none) (d:Tmp) (hd:o.dst=some d) (ty:TypeId) (x:Operand) (ho:o.op=.load ty x) (g:Nat) (hx:a.eval x=.pointer (some ⟨g,0,none⟩)) (cs:List Value) (dd:TypeDesc)
    (hr:w.rangeAt g 0 cs) (hu:P.underlying ty=some dd) (hdd:dd.isRow=true) (hi:(P.info? ty).map (·.size)=some cs.length)
    (h:wpList P ops Q rest (a.put o.dst (.agg cs.toArray)) w):wpList P ops Q (o::rest) a w:=
  wpList_load_mid hgd ty x ho g 0 hx cs dd hr hu hdd hi h
theorem step_build (hgd:o.guard=none) (t:TypeId) (parts:Array (Nat × Operand)) (ho:o.op=.build t parts) (vs:List (Nat × Value)) (hv:(parts.map fun (i,x)=>(i,a.eval x)).toList=vs) (cells:Array Value) (hb:P.built t vs=some cells)
    (h:wpList P ops Q rest (a.put o.dst (.agg cells)) w):wpList P ops Q (o::rest) a w:=by
  subst hv;refine wpList_build hgd t parts ho (by rw [hb];rfl) ?_;rw [hb];exact h
theorem step_store (hgd:o.guard=none) (ty:TypeId) (x y:Operand) (ho:o.op=.store ty x y) (g:Nat) (hx:a.eval x=.pointer (some ⟨g,0,none⟩)) (t:TypeId) (old cs:List Value) (hy:a.eval y=.agg cs.toArray)
    (hr:Row w g t old) (hl:old.length=cs.length) (hi:(P.info? ty).map (·.size)=some cs.length) (h1:∀ v ∈ cs,v.oneCell'=true)
    (h:∀ w',Row w' g t cs→w.grownBy w' (some g)→Hid (w'.heap.size=w.heap.size)→wpList P ops Q rest (a.put o.dst undef) w'):wpList P ops Q (o::rest) a w:=by
  refine wpList_store_row hgd ty x y ho g cs.toArray hx hy t old.toArray hr (by simpa using hi) (by simpa using hl) (all_oneCell_toArray h1) ?_;exact h _ (setRow_heap w g _ _ t _ hr) ⟨rfl,rfl,rfl,by simp,fun k hk hne=>setRow_other w g k _ (fun e=>hne (by rw [e]))⟩ (show _=_ by simp)
end
section
variable {P:Program} (w:World)
end
/- Bytes appended one by one to a row of the call's own,the row told by a function of the place. No conditions but those named. -/
theorem info_b8:(Tryz.prog.info? 5).map (fun i=>(i.zero,i.size,i.bytes))=some (some (.int .u8 0),1,1):=by kernel_rfl
theorem u8_tab:∃ i,U8 Tryz.prog 23 5 i:=by
  obtain ⟨i,hi,hz,h1,h2⟩:=info_parts info_b8;exact ⟨i,Tryz.underlying23,hi,hz,h1,h2⟩
section
variable {P:Program} {w:World} {ops:Array Oper} {rest:List Oper} {o:Oper} {a:Act} {Q:Exit→Act→World→Prop} {K:Act→World→Prop} {E:Prop}
end
theorem made_brr (n:Nat):madeCells (Value.int .u8 0).cells (n*1)=(brr n fun _=>0).toArray:=by
  apply Array.ext';apply List.ext_getElem?;intro j;have hc:(Value.int IntKind.u8 0).cells=#[Value.int IntKind.u8 0]:=rfl;by_cases h:j<n
  · rw [brr_get _ h];simp [madeCells,hc,h,Nat.mod_one,bv]
  · rw [brr_none _ (by omega)];simp [madeCells,hc];omega
theorem step_make {P:Program} {w:World} {ops:Array Oper} {rest:List Oper} {o:Oper} {a:Act} {Q:Exit→Act→World→Prop} (hg:o.guard=none) (l c:Operand) (t e:TypeId) (i:TypeInfo) (U:U8 P t e i) (hop:o.op=Op.makeSlice t l c)
    (n:Nat) (hl:a.eval l=.int .i64 n) (hc:a.eval c=.int .i64 n) (hn:n≤70368744177664)
    (h:∀ g w',_root_.Go.Proofs.YtijffkklhgnknaaGreatDoor.Row w' g e (brr n fun _=>0)→Hid (g=w.heap.size)→Below w.heap.size w w'→Hid (w'.heap.size=w.heap.size+1)→wpList P ops Q rest (a.put o.dst (.slice (some ⟨g,0,none⟩) n n)) w'):
    wpList P ops Q (o::rest) a w:=by
  refine wpList_plain hg fun K hK'=>?_;have hr:=run_make (P:=P) w t e i (.int .u8 0) U.ht U.hi U.hz .i64 .i64 n n (by omega) (Int.le_refl _) (by rw [U.h2];omega) (by omega);simp only [Yf,U.h1] at hr;rw [made_brr] at hr;unfold Oper.wp;simp [execOp,hop,hl,hc,hr,Result.andThen];exact hK' _ _ (h _ _ (Row.made w e _) (show _=_ from rfl) ((Below.refl _ _).alloc (Zj _) _) (show _=_ by simp))
end Go.Proofs.YtijffkklhgnknaaGreatDoor
/- Plain facts about numbers as bytes,the least byte first,and about going through bytes. No program is in sight here,and no conditions. -/
namespace Go.Proofs.YtijffkklhgnknaaGreatDoor
def wid (n:Int):Nat:=if n=8 then 64 else if n=4 then 32 else if n=2 then 16 else if n=1 then 8 else 0
def leb (v:Nat) (k:Nat):List UInt8:=(List.range k).map fun j=>UInt8.ofNat (v / 256 ^ j)
theorem leb_succ (v k:Nat):leb v (k+1)=leb v k++[UInt8.ofNat (v / 256 ^ k)]:=by simp [leb,List.range_succ]
theorem leb_len (v k:Nat):(leb v k).length=k:=by simp [leb]
def num:List UInt8→Nat
  | []=>0
  | b::t=>b.toNat+256*num t
theorem num_app (a:List UInt8) (b:UInt8):num (a++[b])=num a+256 ^ a.length*b.toNat:=by
  induction a with
  | nil=>simp [num]
  | cons x t ih=>
    simp only [List.cons_append,num,ih,List.length_cons];rw [Nat.pow_succ,Nat.mul_add, ← Nat.mul_assoc,Nat.mul_comm 256 (256 ^ t.length)];omega
theorem num_lt (a:List UInt8):num a<256 ^ a.length:=by
  induction a with
  | nil=>simp [num]
  | cons x t ih=>
    have hx:x.toNat<256:=x.toNat_lt;simp only [num,List.length_cons,Nat.pow_succ];omega
theorem num_leb (v:Nat):∀ k,num (leb v k)=v % 256 ^ k
  | 0=>by simp [leb,num,Nat.mod_one]
  | k+1=>by
    have e:(UInt8.ofNat (v / 256 ^ k)).toNat=v / 256 ^ k % 256:=UInt8.toNat_ofNat' ..;rw [leb_succ,num_app,num_leb v k,leb_len,e,Nat.pow_succ,Nat.mod_mul]
theorem or_join (N x k:Nat) (hN:N<256 ^ k) (hx:x<256) (hk:k≤7):bits .or .u64 (N:Int) (IntKind.u64.wrap ((x:Int)*2 ^ (8*k)))=((N+256 ^ k*x:Nat):Int):=by
  have e2:(256:Nat) ^ k=2 ^ (8*k):=by rw [Nat.pow_mul]
  have hp:(2:Nat) ^ (8*k)≤2 ^ 56:=Nat.pow_le_pow_right (by decide) (by omega);have h1:2 ^ (8*k)*x≤2 ^ 56*255:=Nat.mul_le_mul hp (by omega)
  have hw:IntKind.u64.wrap ((x:Int)*2 ^ (8*k))=((2 ^ (8*k)*x:Nat):Int):=by
    have e3:(x:Int)*2 ^ (8*k)=((2 ^ (8*k)*x:Nat):Int):=by
      rw [Int.natCast_mul,Int.natCast_pow,Int.mul_comm];rfl
    rw [e3];generalize 2 ^ (8*k)*x=M at h1;simp only [IntKind.wrap,IntKind.bits,IntKind.signed];simp;omega
  rw [hw,e2];rw [e2] at hN;rw [u64_or_nat N _ (by omega) (by omega),Nat.or_comm, ← Nat.two_pow_add_eq_or_of_lt hN x,Nat.add_comm]
def nxt (n:Int) (l:List UInt8) (bad:Bool):List UInt8 × List UInt8 × Bool:=
  if n<0∨(l.length:Int)<n then ([],[],true) else (l.take n.toNat,l.drop n.toNat,bad)
def nnx (n:Int) (l:List UInt8) (bad:Bool):List UInt8 × List UInt8 × Bool:=
  if wid n=0 then ([],[],true) else nxt n l bad
def tnx (l:List UInt8) (bad:Bool):List UInt8 × List UInt8 × Bool:=
  nxt (num (nxt 2 l bad).1:Nat) (nxt 2 l bad).2.1 (nxt 2 l bad).2.2
theorem nxt_le (n:Int) (l:List UInt8) (bad:Bool):(nxt n l bad).1.length≤l.length∧(nxt n l bad).2.1.length≤l.length:=by
  unfold nxt
  split <;> simp
  omega
theorem nxt_one (n:Int) (l:List UInt8) (bad:Bool) (h0:0≤n):(nxt n l bad).1.length≤n.toNat:=by
  unfold nxt
  split <;> simp
  omega
theorem wid_pos {n:Int} (h:wid n≠0):1≤n∧n≤8:=by
  unfold wid at h
  repeat' split at h
  all_goals omega
theorem wid_le (n:Int):wid n≤64:=by
  unfold wid
  repeat' split
  all_goals omega
theorem wid_eq {n:Int} (h:wid n≠0):(wid n:Int)=8*n:=by
  unfold wid at*
  repeat' split
  all_goals simp_all
end Go.Proofs.YtijffkklhgnknaaGreatDoor
/- The reference's comparison of bytes:what each call leaves. Conditions:those named. -/
namespace Go.Proofs.YtijffkklhgnknaaGreatDoor
open Go.RowKit
theorem rbytes_any (A B:Option Addr) (c d:Nat) (a b:List UInt8) (w:World) (hA:Hol w A a) (hB:Hol w B b) (ha:a.length≤9223372036854775807) (hb:b.length≤9223372036854775807):
    Calls Tryz.prog 91 #[.slice A a.length c,.slice B b.length d] w fun e w'=>e=.returned (.bool (decide (a=b)))∧Below w.heap.size w w':=by
  by_cases hl:a.length=b.length
  · generalize hR:decide (a=b)=R;have HR:=Za hR;clear hR;have hn:((a.length:Int) !=(b.length:Int))=false:=by rw [bne_eq_false_iff_eq];omega
    generalize hbn:b.length=n at*;have HL:=Za hl;have HB:=Za hbn;clear hl hbn;have hn2:(a.length:Int)≤(n:Int):=by have:=HL.out;omega
    have hn3:a.length≤n:=by have:=HL.out;omega
    go_enter Tryz.func91,Tryz.ntmps91;go_wp2;go_loopw [5] (fun i wr=>∃ k:Nat,k≤a.length∧i=.int .i64 k∧Hid (a.take k=b.take k)∧∃ q,wr=w.drewN q) (fun i _=>a.length - (intOf i).toNat)
    case atStart=>exact ⟨0,Nat.zero_le _,rfl,Za (by simp),0,rfl⟩
    case round=>
      obtain ⟨k,hk,rfl,htk,q,rfl⟩:=hrel;by_cases hlt:k<a.length
      · have hltb:k<b.length:=by have:=HL.out;have:=HB.out;omega
        obtain ⟨g,o,rfl,_,hc1⟩:=hA.at_ hlt;obtain ⟨g2,o2,rfl,_,hc2⟩:=hB.at_ hltb;obtain ⟨x,hx⟩:∃ x,a[k]=x:=⟨_,rfl⟩;obtain ⟨y,hy⟩:∃ y,b[k]=y:=⟨_,rfl⟩;rw [hx] at hc1;rw [hy] at hc2;have HX:=Za hx;have HY:=Za hy;clear hx hy;have hkz:(k:Int)<(a.length:Int):=by omega
        have hkz2:(k:Int)<(n:Int):=by omega
        by_cases hxy:x=y
        · subst hxy
          have htk2:Hid (a.take (k+1)=b.take (k+1)):=by
            refine Za ?_;rw [List.take_succ_eq_append_getElem hlt,List.take_succ_eq_append_getElem hltb,htk.out,HX.out,HY.out]
          go_wp2_with fail;go_quiet (fail);go_wp2;go_roundw
          case rel=>
            exact ⟨k+1,by omega,by go_num,htk2,_,rfl⟩
          case measure=>simp [intOf];omega
        · have hR:R=false:=by
            rw [← HR.out];apply decide_eq_false;intro e;apply hxy;subst e;rw [← HX.out, ← HY.out]
          subst hR
          have hne:((x.toNat:Int) !=(y.toNat:Int))=true:=by
            rw [bne_iff_ne];intro e;exact hxy (UInt8.toNat_inj.1 (by omega))
          clear hxy;go_wp2_with fail;go_quiet (fail);go_wp2;go_ret;exact ⟨rfl,below_drewN (below_drewN (Below.refl _ _) _) _⟩
      · have hR:R=true:=by
          rw [← HR.out];apply decide_eq_true;have:=htk.out;rw [Zz (by omega),Zz (by have:=HL.out;have:=HB.out;omega)] at this;exact this
        subst hR;go_wp2;go_ret;exact ⟨rfl,below_drewN (Below.refl _ _) _⟩
  · have hR:decide (a=b)=false:=by
      apply decide_eq_false;intro e;exact hl (by rw [e])
    rw [hR];have hn:((a.length:Int) !=(b.length:Int))=true:=by rw [bne_iff_ne];omega
    clear hl hR;go_enter Tryz.func91,Tryz.ntmps91;go_wp2;go_ret;exact ⟨rfl,Below.refl _ _⟩
/- Words for memory:a world that has new blocks and is else as it was,with nothing frozen anew. No conditions. -/
structure Calm (w w':World):Prop where
  below:Below w.heap.size w w'
  thaw:∀ a,w'.frozen? a=w.frozen? a
theorem Calm.refl (w:World):Calm w w:=⟨Below.refl _ _,fun _=>rfl⟩
theorem Calm.size {w w':World} (h:Calm w w'):w.heap.size≤w'.heap.size:=h.below.size
theorem Calm.trans {a b c:World} (h:Calm a b) (k:Calm b c):Calm a c:=⟨h.below.trans (k.below.mono h.size),fun x=>(k.thaw x).trans (h.thaw x)⟩
theorem Calm.grown {w w':World} (h:Calm w w'):Grown w w':=⟨h.below.frame _,h.thaw,h.size⟩
theorem Calm.drew {a w:World} (h:Calm a w):Calm a w.drew:=⟨h.below.drew,h.thaw⟩
theorem Calm.drewN {a w:World} (h:Calm a w) (k:Nat):Calm a (w.drewN k):=⟨below_drewN h.below k,h.thaw⟩
theorem Calm.setCell {a w:World} (h:Calm a w) {p:Addr} (hp:a.heap.size≤p.block) (u:Value):Calm a (w.setCell p u):=⟨h.below.setCell hp u,fun x=>(World.frozen?_setCell _ _ _ _).trans (h.thaw x)⟩
theorem Calm.alloc {a w:World} (h:Calm a w) (c:Array Value) (t:TypeId):Calm a (w.alloc (.cells c t)):=⟨h.below.alloc h.size _,fun x=>(frozen?_alloc_cells _ _ _ x).trans (h.thaw x)⟩
theorem Calm.of {a w w':World} (h:Calm a w) (k:Hid (Calm w w')):Calm a w':=h.trans k.out
theorem frozen_setRow (w:World) (g:Nat) (cells:Array Value) (t:TypeId) (old:Array Value) (hg:w.heap[g]?=some (.cells old t (0,0))) (a:Addr):(w.setRow g cells).frozen? a=w.frozen? a:=by
  by_cases h:a.block=g
  · have h1:=setRow_heap w g old cells t (0,0) hg;unfold World.frozen?;rw [h,h1,hg]
  · have h1:=setRow_other w g a.block cells h;unfold World.frozen?;rw [h1]
structure Upon (g:Nat) (w w':World):Prop where
  by_:w.grownBy w' (some g)
  thaw:∀ a,w'.frozen? a=w.frozen? a
theorem Upon.refl (g:Nat) (w:World):Upon g w w:=⟨⟨rfl,rfl,rfl,Zj _,fun _ _ _=>rfl⟩,fun _=>rfl⟩
theorem Upon.size {g:Nat} {w w':World} (h:Upon g w w'):w.heap.size≤w'.heap.size:=h.by_.size
theorem Upon.trans {g:Nat} {a b c:World} (h:Upon g a b) (k:Upon g b c):Upon g a c:=
  ⟨⟨k.by_.os.trans h.by_.os,k.by_.tape.trans h.by_.tape,k.by_.output.trans h.by_.output,Nat.le_trans h.size k.size,fun i hi hne=>(k.by_.block i (Yc hi h.size) hne).trans (h.by_.block i hi hne)⟩,fun x=>(k.thaw x).trans (h.thaw x)⟩
theorem Calm.upon {w w':World} (h:Calm w w') (g:Nat):Upon g w w':=⟨⟨h.below.os,h.below.tape,h.below.output,h.below.size,fun k hk _=>h.below.block k hk⟩,h.thaw⟩
theorem Upon.put {g:Nat} {w w':World} (h:Upon g w w') {p:Addr} (hp:p.block=g) (u:Value):Upon g w (w'.setCell p u):=
  h.trans ⟨⟨rfl,rfl,rfl,by simp [World.setCell],fun k _ hne=>Below.heap_setCell _ _ _ _ (fun e=>hne (by rw [e,hp]))⟩,fun x=>World.frozen?_setCell _ _ _ _⟩
theorem Upon.far {g:Nat} {w w':World} (h:Upon g w w') {p:Addr} (hp:w.heap.size≤p.block) (u:Value):Upon g w (w'.setCell p u):=
  ⟨⟨h.by_.os,h.by_.tape,h.by_.output,Nat.le_trans h.size (by simp [World.setCell]),fun k hk hne=>(Below.heap_setCell _ _ _ _ (by omega)).trans (h.by_.block k hk hne)⟩,fun x=>(World.frozen?_setCell _ _ _ _).trans (h.thaw x)⟩
theorem Upon.drew {g:Nat} {w w':World} (h:Upon g w w'):Upon g w w'.drew:=⟨⟨h.by_.os,h.by_.tape,h.by_.output,h.by_.size,h.by_.block⟩,h.thaw⟩
theorem Upon.drewN {g:Nat} {w w':World} (h:Upon g w w') (n:Nat):Upon g w (w'.drewN n):=⟨⟨h.by_.os,h.by_.tape,h.by_.output,h.by_.size,h.by_.block⟩,h.thaw⟩
theorem Upon.after {g:Nat} {w w1 w2:World} (h:Upon g w w1) (k:Calm w1 w2):Upon g w w2:=h.trans (k.upon g)
theorem Row.upon {w w':World} {g g':Nat} {t:TypeId} {cs:List Value} (h:Row w g t cs) (k:Upon g' w w') (hne:g≠g'):Row w' g t cs:=h.grown k.by_ (fun e=>hne (by injection e))
section
variable {P:Program} {ops:Array Oper} {rest:List Oper} {o:Oper} {a:Act} {w:World} {Q:Exit→Act→World→Prop}
end
/- Rows of the call's own,as they stay. Conditions:those named. -/
theorem own_kept {w w':World} {base:Nat} {e:TypeId} {size n:Nat} {v:Value} {xs:List Value} (h:w.ownsRow base e size v n xs) (hb:Below w.heap.size w w'):w'.ownsRow base e size v n xs:=by
  refine h.kept (grown_of_below (row:=some w.heap.size) hb) ?_
  cases hv:v.ownBlock with
  | none=>exact .inl rfl
  | some k=>
    refine .inr (fun e=>?_);injection e with e
    have:=(h.lt k hv).2;omega
theorem own_sl {w:World} {base:Nat} {e:TypeId} {size n:Nat} {v:Value} {xs:List Value} (h:w.ownsRow base e size v n xs):∃ A c,v=.slice A n c:=by
  rcases h.2 with ⟨rfl,rfl⟩ | ⟨g,cap,cur,rfl,_⟩
  · exact ⟨none,0,rfl⟩
  · exact ⟨_,_,rfl⟩
/- Bytes copied into a row of the call's own,the row told by a function of the place. No conditions but those named. -/
def ov (o:Nat) (l:List UInt8) (f:Nat→UInt8):Nat→UInt8:=fun j=>if o≤j∧j<o+l.length then l.getD (j - o) 0 else f j
theorem ov_in {o:Nat} {l:List UInt8} {f:Nat→UInt8} {j:Nat} (h:o≤j) (h2:j<o+l.length):ov o l f j=l.getD (j - o) 0:=if_pos ⟨h,h2⟩
theorem ov_out {o:Nat} {l:List UInt8} {f:Nat→UInt8} {j:Nat} (h:¬ (o≤j∧j<o+l.length)):ov o l f j=f j:=if_neg h
theorem ov_brr (n o:Nat) (l:List UInt8) (f:Nat→UInt8) (h:o+l.length≤n):(brr n f).take o++(bc l++(brr n f).drop (o+l.length))=brr n (ov o l f):=by
  apply List.ext_getElem?;intro j;by_cases h1:j<o
  · rw [Zv (by rw [Zu,brr_len];omega),List.getElem?_take,if_pos h1,brr_get f (by omega),brr_get _ (by omega),ov_out (by omega)]
  · rw [Zm (by rw [Zu,brr_len];omega),Zu,brr_len];rw [show j - min o n=j - o by omega];by_cases h2:j<o+l.length
    · rw [Zv (by rw [bc_len];omega),get_bc (Zh (by omega)),brr_get _ (by omega),ov_in (by omega) h2,List.getD_eq_getElem?_getD,Zh (by omega)];rfl
    · rw [Zm (by rw [bc_len];omega),bc_len,List.getElem?_drop];rw [show o+l.length+(j - o - l.length)=j by omega];by_cases h3:j<n
      · rw [brr_get f h3,brr_get _ h3,ov_out (by omega)]
      · rw [brr_none f (by omega),brr_none _ (by omega)]
section
variable {P:Program} {w:World}
theorem run_copy_brr (dT sT ty e:TypeId) (hu:P.underlying dT=some (.slice e)) (hs:(P.info? e).map (·.size)=some 1) (g o n dLen dCap:Nat) (t:TypeId) (f:Nat→UInt8) (hr:_root_.Go.Proofs.YtijffkklhgnknaaGreatDoor.Row w g t (brr n f))
    (A:Option Addr) (m c:Nat) (l:List UInt8) (hm:m=l.length) (hA:Hol w A l) (hfit:o+Nat.min m dLen≤n):
    ∃ w' k,(Builtin.copy_ #[dT,sT] ty #[.slice (some ⟨g,o,none⟩) dLen dCap,.slice A m c]).run P w=.ok (goInt k) w'∧_root_.Go.Proofs.YtijffkklhgnknaaGreatDoor.Row w' g t (brr n (ov o (l.take dLen) f))∧Upon g w w':=by
  subst hm;by_cases h0:Nat.min l.length dLen=0
  · refine ⟨w,_,run_copy_none (P:=P) w dT sT ty e (some ⟨g,o,none⟩) A dLen dCap l.length c hu hs h0,?_,Upon.refl _ _⟩
    have:l.take dLen=[]:=by
      apply Zk;rw [Zu];have:min dLen l.length=Nat.min l.length dLen:=Nat.min_comm _ _;omega
    rw [this];have e1:ov o [] f=f:=by funext j;exact ov_out (by simp)
    rw [e1];exact hr
  · have hlen:(l.take dLen).length=Nat.min l.length dLen:=by rw [Zu];exact Nat.min_comm _ _
    obtain ⟨ga,off,rfl,hga,hc⟩:=hA.some_ (by have:Nat.min l.length dLen≤l.length:=Nat.min_le_left _ _;omega)
    have hsrc:∀ j v,(bc (l.take dLen))[j]?=some v→w.cell? ((⟨ga,off,none⟩:Addr).add j)=some v:=fun j v hv=>by
      obtain ⟨x,hx,rfl⟩:=bc_get hv;rw [show (⟨ga,off,none⟩:Addr).add j=⟨ga,off+j,none⟩ by unfold Addr.add;split <;> simp_all];refine hc j x ?_;rw [List.getElem?_take] at hx
      split at hx
      · exact hx
      · cases hx
    have hrun:=run_copy_row (P:=P) w dT sT ty e g o dLen dCap ⟨ga,off,none⟩ l.length c (brr n f).toArray t (bc (l.take dLen)) hu hs hr (by rw [bc_len,hlen]) hsrc (by rw [bc_len,hlen];simpa [brr_len] using hfit) (bc_one _);rw [bc_len,Zi] at hrun;have e1:(brr n f).toArray.toList=brr n f:=rfl;rw [e1,ov_brr n o (l.take dLen) f (by rw [hlen];exact hfit)] at hrun;refine ⟨_,_,hrun,setRow_heap w g _ _ t _ hr,⟨⟨rfl,rfl,rfl,by simp,fun k hk hne=>setRow_other w g k _ (fun e=>hne (by rw [e]))⟩,fun x=>frozen_setRow w g _ t _ hr x⟩⟩
theorem wp_copy {ops:Array Oper} {rest:List Oper} {op:Oper} {a:Act} {Q:Exit→Act→World→Prop} (hgd:op.guard=none) (d s:Operand) (dT sT:TypeId) (ho:op.op=.call { callee:=.builtin .copy,args:=#[d,s],argTypes:=#[dT,sT] })
    (e:TypeId) (hu:P.underlying dT=some (.slice e)) (hs:(P.info? e).map (·.size)=some 1) (g o n dLen dCap:Nat) (t:TypeId) (f:Nat→UInt8) (hd:a.eval d=.slice (some ⟨g,o,none⟩) dLen dCap) (hr:_root_.Go.Proofs.YtijffkklhgnknaaGreatDoor.Row w g t (brr n f))
    (A:Option Addr) (m c:Nat) (l:List UInt8) (hx:a.eval s=.slice A m c) (hm:m=l.length) (hA:Hol w A l) (hfit:o+Nat.min m dLen≤n)
    (h:∀ w' k,_root_.Go.Proofs.YtijffkklhgnknaaGreatDoor.Row w' g t (brr n (ov o (l.take dLen) f))→Hid (Upon g w w')→wpList P ops Q rest (a.put op.dst (goInt k)) w'):
    wpList P ops Q (op::rest) a w:=by
  refine wpList_plain hgd fun K hK=>?_;obtain ⟨w',k,hr1,h2,h3⟩:=run_copy_brr (P:=P) dT sT op.type e hu hs g o n dLen dCap t f hr A m c l hm hA hfit;unfold Oper.wp execOp;simp only [ho,resolve,invoke,builtin,Sem.run_bind,Sem.run_pure,Zw,List.map_toArray,List.map_cons,List.map_nil,hd,hx,hr1];exact hK _ _ (h w' k h2 h3)
end
def lst (n:Nat) (f:Nat→UInt8):List UInt8:=(List.range n).map f
theorem lst_len (n:Nat) (f:Nat→UInt8):(lst n f).length=n:=by simp [lst]
theorem lst_bc (n:Nat) (f:Nat→UInt8):brr n f=bc (lst n f):=by
  simp [brr,bc,lst,bv]
theorem lst_get {n j:Nat} (f:Nat→UInt8) (h:j<n):(lst n f)[j]?=some (f j):=by simp [lst,h]
theorem Row.hol {w:World} {g n:Nat} {t:TypeId} {f:Nat→UInt8} (h:Row w g t (brr n f)):Hol w (some ⟨g,0,none⟩) (lst n f):=by
  rw [lst_bc] at h;refine .inr ⟨g,0,rfl,fun j x hx=>?_⟩;rw [Nat.zero_add,h.cell];exact get_bc hx
end Go.Proofs.YtijffkklhgnknaaGreatDoor
