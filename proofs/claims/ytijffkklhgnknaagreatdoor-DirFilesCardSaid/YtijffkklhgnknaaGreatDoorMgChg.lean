/- Words for memory: a thing of several blocks that may be written, all else as it was; rows of records; rows of bytes of the call's own. No conditions. -/
import Derived.Test.YtijffkklhgnknaaGreatDoorAz
import Derived.Test.YtijffkklhgnknaaGreatDoorMgMem
import Derived.Deep.RegionLaw
import Derived.Deep.AppendLies
import Derived.Lib.SliceRun
import Derived.Test.YtijffkklhgnknaaGreatDoorIter
import Derived.Test.YtijffkklhgnknaaGreatDoorShelf
import Derived.Maps.OwnSet
import Derived.WalkKit
import Derived.WalkMore
import Derived.Laws.StructEq
import Derived.Deep.RegionHeld
import Derived.Deep.MidRow
import Derived.WalkSpells
import Derived.WalkLawsBesides
import Derived.WalkSmall
import Derived.Outline
import Derived.Lib.ValidLaws
import Derived.Lib.TrimUEq
set_option maxHeartbeats 20000000
set_option linter.unusedVariables false
namespace Go.Proofs.YtijffkklhgnknaaGreatDoor
open Go.RowKit
theorem below_nxt {w u v:World} (hb:Below u.heap.size u v) (ha:Below w.heap.size w u):Below w.heap.size w v:=ha.trans (hb.mono ha.size)
theorem below_drw (w:World):Below w.heap.size w w.drew:=(Below.refl _ _).drew
structure Chg (F:List Nat) (w w':World):Prop where
  os:w'.os=w.os
  tape:w'.tape=w.tape
  output:w'.output=w.output
  size:w.heap.size≤w'.heap.size
  block:∀ j,j<w.heap.size→j ∉ F→w'.heap[j]?=w.heap[j]?
theorem Chg.refl (F:List Nat) (w:World):Chg F w w:=⟨rfl,rfl,rfl,Zj _,fun _ _ _=>rfl⟩
theorem Chg.of {F:List Nat} {w w':World} (h:Below w.heap.size w w'):Chg F w w':=⟨h.os,h.tape,h.output,h.size,fun j hj _=>h.block j hj⟩
theorem Chg.wider {F G:List Nat} {w w':World} (h:Chg F w w') (hs:∀ x ∈ F,x ∈ G∨w.heap.size≤x):Chg G w w':=
  ⟨h.os,h.tape,h.output,h.size,fun j hj hn=>h.block j hj (fun hf=>by rcases hs j hf with h | h;exact hn h;omega)⟩
theorem Chg.trans {F G:List Nat} {a b c:World} (h:Chg F a b) (k:Chg G b c) (hs:∀ x ∈ G,x ∈ F∨a.heap.size≤x):Chg F a c:=
  ⟨k.os.trans h.os,k.tape.trans h.tape,k.output.trans h.output,Nat.le_trans h.size k.size,fun j hj hn=>(k.block j (Yc hj h.size) (fun hg=>by rcases hs j hg with h | h;exact hn h;omega)).trans (h.block j hj hn)⟩
theorem Chg.grown {F:List Nat} {w w1 w2:World} {row:Option Nat} (h:Chg F w w1) (hg:w1.grownBy w2 row) (hr:∀ k,row=some k→k ∈ F∨w.heap.size≤k):Chg F w w2:=
  ⟨hg.os.trans h.os,hg.tape.trans h.tape,hg.output.trans h.output,Nat.le_trans h.size hg.size,fun j hj hn=>(hg.block j (Yc hj h.size) (fun e=>by rcases hr j e.symm with h | h;exact hn h;omega)).trans (h.block j hj hn)⟩
theorem Chg.setCell {F:List Nat} {w w1:World} (h:Chg F w w1) {p:Addr} (hp:p.block ∈ F∨w.heap.size≤p.block) (u:Value):Chg F w (w1.setCell p u):=
  h.grown (grown_set w1 p u) (fun k hk=>by injection hk with hk;rw [← hk];exact hp)
theorem Chg.drew {F:List Nat} {w w1:World} (h:Chg F w w1):Chg F w w1.drew:=⟨h.os,h.tape,h.output,h.size,h.block⟩
theorem Chg.alloc {F:List Nat} {w w1:World} (h:Chg F w w1) (o:Obj):Chg F w (w1.alloc o):=h.grown (World.grownBy_alloc w1 o none) (fun k hk=>by cases hk)
theorem Chg.below {F:List Nat} {w w':World} {b:Nat} (h:Chg F w w') (hb:b≤w.heap.size) (hF:∀ x ∈ F,b≤x):Below b w w':=
  ⟨h.os,h.tape,h.output,h.size,fun j hj=>h.block j (by omega) (fun hf=>by have:=hF j hf;omega)⟩
theorem Chg.cell {F:List Nat} {w w':World} (h:Chg F w w') {g o:Nat} {v:Value} (hc:w.cell? ⟨g,o,none⟩=some v) (hn:g ∉ F):w'.cell? ⟨g,o,none⟩=some v:=
  (World.cell?_of_block (h.block g (Ya w _ hc) hn)).trans hc
theorem Chg.own {F:List Nat} {w w':World} {b size n:Nat} {e:TypeId} {v:Value} {xs:List Value} (h:w.ownsRow b e size v n xs) (hc:Chg F w w') (hn:∀ k,v.ownBlock=some k→k ∉ F):w'.ownsRow b e size v n xs:=by
  refine ⟨h.1,?_⟩;rcases h.2 with h0 | ⟨g,cap,cur,rfl,hb,hg,rest⟩
  · exact .inl h0
  · exact .inr ⟨g,cap,cur,rfl,hb,(hc.block g (Array.getElem?_eq_some_iff.1 hg).1 (hn g rfl)).trans hg,rest⟩
theorem Chg.row {F:List Nat} {w w':World} {g:Nat} {t:TypeId} {cs:List Value} (h:Row w g t cs) (hc:Chg F w w') (hn:g ∉ F):Row w' g t cs:=(hc.block g h.lt hn).trans h
theorem Chg.hol {F:List Nat} {w w':World} {A:Option Addr} {l:List UInt8} (h:Hol w A l) (hc:Chg F w w') (hn:∀ g o,A=some ⟨g,o,none⟩→l≠[]→g ∉ F):Hol w' A l:=by
  rcases h with rfl | ⟨g,o,rfl,hcell⟩
  · exact .inl rfl
  · by_cases hl:l=[]
    · exact .inl hl
    · exact .inr ⟨g,o,rfl,fun j x hx=>hc.cell (hcell j x hx) (hn g o rfl hl)⟩
section
variable {α:Type} {f:α→List Value} {k:Nat}
theorem flat_len (hf:∀ x,(f x).length=k):∀ xs:List α,(xs.flatMap f).length=xs.length*k
  | []=>by simp
  | x::t=>by
    rw [List.flatMap_cons,Zf,hf,flat_len hf t,List.length_cons,Nat.add_mul];omega
theorem flat_snoc (xs:List α) (x:α):(xs++[x]).flatMap f=xs.flatMap f++f x:=by simp
theorem flat_get (hf:∀ x,(f x).length=k):∀ {xs:List α} {j:Nat} {x:α},xs[j]?=some x→∀ i,i<k→(xs.flatMap f)[j*k+i]?=(f x)[i]?
  | [],j,x,h,_,_=>by simp at h
  | a::t,0,x,h,i,hi=>by
    simp at h;subst h;rw [List.flatMap_cons,Nat.zero_mul,Nat.zero_add,Zv (by rw [hf];exact hi)]
  | a::t,j+1,x,h,i,hi=>by
    have h':t[j]?=some x:=by simpa using h
    rw [List.flatMap_cons,Zm (by rw [hf,Nat.add_mul];omega),hf,show (j+1)*k+i - k=j*k+i by rw [Nat.add_mul];omega];exact flat_get hf h' i hi
end
structure BV where
  A:Option Addr
  c:Nat
  l:List UInt8
def bvv (b:BV):Value:=.slice b.A b.l.length b.c
def noBV:BV:=⟨none,0,[]⟩
def Own8 (b:Nat) (w:World) (x:BV):Prop:=w.ownsRow b 5 1 (bvv x) x.l.length (bc x.l)
theorem Own8.none_ (b:Nat) (w:World):Own8 b w noBV:=Ye _ _ _ _
theorem Own8.hol {b:Nat} {w:World} {x:BV} (h:Own8 b w x):Hol w x.A x.l:=Hol.own h
theorem Own8.cap {b:Nat} {w:World} {x:BV} (h:Own8 b w x):x.l.length≤x.c:=by
  rcases h.2 with ⟨e0,h0⟩ | ⟨g,cap',cur,e0,_,_,hc,_⟩
  · omega
  · simp only [bvv,Value.slice.injEq] at e0;omega
theorem Own8.below {b:Nat} {w w':World} {x:BV} (h:Own8 b w x) (hb:Below w.heap.size w w'):Own8 b w' x:=own_kept h hb
theorem Own8.lower {b b':Nat} {w:World} {x:BV} (h:Own8 b w x) (hb:b'≤b):Own8 b' w x:=by
  refine ⟨h.1,?_⟩;rcases h.2 with h0 | ⟨g,cap,cur,h1,h2,h3⟩
  · exact .inl h0
  · exact .inr ⟨g,cap,cur,h1,Nat.le_trans hb h2,h3⟩
def NoBytes (w:World) (F:List Nat):Prop:=∀ x ∈ F,∀ cs fr,w.heap[x]?≠some (.cells cs 5 fr)
theorem Own8.chg {b:Nat} {F:List Nat} {w w':World} {x:BV} (h:Own8 b w x) (hc:Chg F w w') (hF:NoBytes w F):Own8 b w' x:=by
  refine Chg.own h hc fun k hk hf=>?_;rcases h.2 with ⟨e0,_⟩ | ⟨g,cap,cur,e0,_,hg,_⟩
  · rw [e0] at hk;cases hk
  · rw [e0] at hk;injection hk with hk
    subst hk;exact hF _ hf _ _ hg
/- Words for memory:rows of records of the call's own,as they grow;lists of bytes,of changes,of steps,as they lie. No conditions but those named. -/
structure Rec (P:Program) (t e:TypeId) (k:Nat):Prop where
  ht:P.underlying t=some (.slice e)
  inf:∃ i z,P.info? e=some i∧i.zero=some z∧i.size=k∧i.bytes≤64∧z.cells.size=k
  pos:0<k
theorem rec_of {P:Program} {t e:TypeId} {k n:Nat} {z:Value} (ht:P.underlying t=some (.slice e)) (h:(P.info? e).map (fun i=>(i.zero,i.size,i.bytes))=some (some z,k,n)) (hn:n≤64) (hz:z.cells.size=k) (hk:0<k):Rec P t e k:=by
  obtain ⟨i,h1,h2,h3,h4⟩:=info_parts h;exact ⟨ht,⟨i,z,h1,h2,h3,by omega,hz⟩,hk⟩
theorem rec_sl:Rec Tryz.prog 51 23 1:=rec_of (z:=.slice none 0 0) (n:=24) Tryz.underlying51 (by kernel_rfl) (by decide) rfl (by decide)
theorem rec_put:Rec Tryz.prog 157 159 2:=rec_of (z:=.agg #[.int .i64 0,.slice none 0 0]) (n:=32) Tryz.underlying157 (by kernel_rfl) (by decide) rfl (by decide)
theorem own_parted {w:World} {b b':Nat} {e e':TypeId} {s s' n n':Nat} {v v':Value} {xs xs':List Value} (h:w.ownsRow b e s v n xs) (h':w.ownsRow b' e' s' v' n' xs') (hne:e≠e'):v.ownBlock=none∨v.ownBlock≠v'.ownBlock:=by
  rcases h.2 with ⟨rfl,_⟩ | ⟨g,cap,cur,rfl,_,hg,_⟩
  · exact .inl rfl
  · refine .inr fun he=>?_;rcases h'.2 with ⟨rfl,_⟩ | ⟨g',cap',cur',rfl,_,hg',_⟩
    · simp [Value.ownBlock] at he
    · simp [Value.ownBlock] at he;subst he;rw [hg] at hg';injection hg' with hg'
      injection hg' with _ ht
      exact hne ht
theorem row_parted {w:World} {b g:Nat} {t e:TypeId} {s n:Nat} {v:Value} {cs xs:List Value} (h:Row w g t cs) (h':w.ownsRow b e s v n xs) (hne:t≠e):v.ownBlock≠some g:=by
  intro he;rcases h'.2 with ⟨rfl,_⟩ | ⟨g',cap',cur',rfl,_,hg',_⟩
  · simp [Value.ownBlock] at he
  · simp [Value.ownBlock] at he;subst he;have h1:=h.heap;rw [h1] at hg';injection hg' with hg'
    injection hg' with _ ht
    exact hne ht
theorem own_lower {w:World} {b b':Nat} {e:TypeId} {size n:Nat} {v:Value} {xs:List Value} (h:w.ownsRow b e size v n xs) (hb:b'≤b):w.ownsRow b' e size v n xs:=by
  refine ⟨h.1,?_⟩;rcases h.2 with h0 | ⟨g,cap,cur,h1,h2,h3⟩
  · exact .inl h0
  · exact .inr ⟨g,cap,cur,h1,Nat.le_trans hb h2,h3⟩
section
variable {P:Program} {w:World} {t e:TypeId} {k:Nat}
theorem run_join (R:Rec P t e k) (ty:TypeId) (base:Nat) (v:Value) (n:Nat) (xs:List Value) (hown:w.ownsRow base e k v n xs)
    (A:Option Addr) (m c:Nat) (ys:List Value) (hys:ys.length=m*k) (hA:m=0∧A=none∨∃ ad,A=some ad∧∀ j u,ys[j]?=some u→w.cell? (ad.add j)=some u) (h1:∀ u ∈ ys,u.oneCell'=true) (hb:n+m≤1000001) (hbase:base≤w.heap.size):
    ∃ v' w',(Builtin.append_ #[t,t] ty #[v,.slice A m c]).run P w=.ok v' w'∧w'.ownsRow base e k v' (n+m) (xs++ys)∧w.grownBy w' v.ownBlock∧(v'.ownBlock=v.ownBlock∨v'.ownBlock=some w.heap.size):=by
  obtain ⟨i,z,hi,hz,hs,hby,hzs⟩:=R.inf;rcases hA with ⟨rfl,rfl⟩ | ⟨ad,rfl,hc⟩
  · have hy:ys=[]:=Zk (by rw [hys,Nat.zero_mul]);subst hy;refine ⟨v,w,?_,by simpa using hown,⟨rfl,rfl,rfl,Zj _,fun _ _ _=>rfl⟩,.inl rfl⟩;rcases hown.2 with ⟨rfl,rfl⟩ | ⟨g,cap,cur,rfl,_,_,hnc,_⟩
    · simp [Builtin.append_,run_underlying R.ht,sizeOf,typeInfo,hi,Builtin.lenOf,Builtin.firstCells]
    · simp [Builtin.append_,run_underlying R.ht,sizeOf,typeInfo,hi,Builtin.lenOf,Builtin.firstCells,hnc,storeCells]
  · obtain ⟨v',w',hr,h2,h3,_,h5⟩:=run_append_own_at (P:=P) w base t ty e i z k i.bytes R.ht hi hz hs rfl hzs R.pos v n xs hown ad m c ys hys hc h1
      (by unfold maxLen;omega) (Nat.le_trans (Nat.mul_le_mul hb hby) (by omega)) hbase
    exact ⟨v',w',hr,h2,h3,h5⟩
theorem wp_join {ops:Array Oper} {rest:List Oper} {o:Oper} {a:Act} {Q:Exit→Act→World→Prop} (hgd:o.guard=none) (s x:Operand)
    (ho:o.op=.call { callee:=.builtin .append,args:=#[s,x],argTypes:=#[t,t] }) (R:Rec P t e k) (base:Nat) (v:Value) (n:Nat) (xs:List Value) (hs:a.eval s=v) (hown:w.ownsRow base e k v n xs)
    (A:Option Addr) (m c:Nat) (ys:List Value) (hx:a.eval x=.slice A m c) (hys:ys.length=m*k) (hA:m=0∧A=none∨∃ ad,A=some ad∧∀ j u,ys[j]?=some u→w.cell? (ad.add j)=some u) (h1:∀ u ∈ ys,u.oneCell'=true) (hb:n+m≤1000001) (hbase:base≤w.heap.size)
    (h:∀ v' w',w'.ownsRow base e k v' (n+m) (xs++ys)→w.grownBy w' v.ownBlock→(v'.ownBlock=v.ownBlock∨v'.ownBlock=some w.heap.size)→wpList P ops Q rest (a.put o.dst v') w'):
    wpList P ops Q (o::rest) a w:=by
  refine wpList_plain hgd fun K hK=>?_;obtain ⟨v',w',hr,h2,h3,h4⟩:=run_join (P:=P) R o.type base v n xs hown A m c ys hys hA h1 hb hbase;unfold Oper.wp execOp;simp only [ho,resolve,invoke,builtin,Sem.run_bind,Sem.run_pure,Zw,List.map_toArray,List.map_cons,List.map_nil,hs,hx,hr];exact hK _ _ (h v' w' h2 h3 h4)
end
theorem own_src {w:World} {b k n:Nat} {e:TypeId} {A:Option Addr} {c:Nat} {xs:List Value} (h:w.ownsRow b e k (.slice A n c) n xs):n=0∧A=none∨∃ ad,A=some ad∧∀ j u,xs[j]?=some u→w.cell? (ad.add j)=some u:=by
  rcases h.2 with ⟨e0,h0⟩ | ⟨g,cap,cur,e0,_⟩
  · simp only [Value.slice.injEq] at e0;exact .inl ⟨h0,e0.1⟩
  · simp only [Value.slice.injEq] at e0;obtain ⟨rfl,_,_⟩:=e0;exact .inr ⟨_,rfl,fun j u hu=>h.cells (g:=g) rfl j u hu⟩
theorem flat_one {α:Type} {f:α→List Value} (hf:∀ x,∀ u ∈ f x,u.oneCell'=true) (xs:List α):∀ u ∈ xs.flatMap f,u.oneCell'=true:=by
  intro u hu;obtain ⟨x,_,hx⟩:=List.mem_flatMap.1 hu;exact hf x u hx
theorem void_own (w:World) (e:TypeId) (k b:Nat) (hb:b≤w.heap.size):(w.alloc (.cells #[] e)).ownsRow b e k (.slice (some ⟨w.heap.size,0,none⟩) 0 0) 0 []:=
  ⟨by simp,.inr ⟨w.heap.size,0,#[],rfl,hb,heap_alloc_new w _,Zj _,by decide,by simp,by simp⟩⟩
theorem made_src (w:World) (cs:List Value) (e:TypeId) {m:Nat}:m=0∧(some (⟨w.heap.size,0,none⟩:Addr))=none∨∃ ad,some (⟨w.heap.size,0,none⟩:Addr)=some ad∧∀ j u,cs[j]?=some u→(w.alloc (.cells cs.toArray e)).cell? (ad.add j)=some u:=
  .inr ⟨_,rfl,fun j u hu=>by rw [Addr.add_lit,Nat.zero_add,(Row.made w e cs).cell];exact hu⟩
def sc (b:BV):List Value:=[bvv b]
theorem sc_len (b:BV):(sc b).length=1:=rfl
def pcs (p:Int × BV):List Value:=[.int .i64 p.1,bvv p.2]
theorem pcs_len (p:Int × BV):(pcs p).length=2:=rfl
theorem sc_one (b:BV):∀ u ∈ sc b,u.oneCell'=true:=by intro u hu;simp [sc,bvv] at hu;subst hu;rfl
theorem pcs_one (p:Int × BV):∀ u ∈ pcs p,u.oneCell'=true:=by intro u hu;simp [pcs,bvv] at hu;rcases hu with rfl | rfl <;> rfl
def Lies {α:Type} (f:α→List Value) (k:Nat) (w:World) (A:Option Addr) (xs:List α):Prop:=
  xs=[]∨∃ g o,A=some ⟨g,o,none⟩∧∀ j x,xs[j]?=some x→∀ i u,(f x)[i]?=some u→w.cell? ⟨g,o+j*k+i,none⟩=some u
section
variable {α:Type} {f:α→List Value} {k:Nat} {w w':World} {A:Option Addr} {xs:List α}
theorem Lies.at_ (h:Lies f k w A xs) {j:Nat} (hj:j<xs.length):∃ g o,A=some ⟨g,o,none⟩∧∀ i u,(f (xs[j]'hj))[i]?=some u→w.cell? ⟨g,o+j*k+i,none⟩=some u:=by
  rcases h with rfl | ⟨g,o,rfl,hc⟩
  · simp at hj
  · exact ⟨g,o,rfl,hc j _ (Zh hj)⟩
theorem Lies.below (h:Lies f k w A xs) (hb:Below w.heap.size w w'):Lies f k w' A xs:=by
  rcases h with rfl | ⟨g,o,rfl,hc⟩
  · exact .inl rfl
  · exact .inr ⟨g,o,rfl,fun j x hx i u hu=>(hb.cell (p:=⟨g,o+j*k+i,none⟩) (Ya w _ (hc j x hx i u hu))).trans (hc j x hx i u hu)⟩
theorem Lies.chg {F:List Nat} (h:Lies f k w A xs) (hc:Chg F w w') (hn:∀ g o,A=some ⟨g,o,none⟩→g ∉ F):Lies f k w' A xs:=by
  rcases h with rfl | ⟨g,o,rfl,h⟩
  · exact .inl rfl
  · exact .inr ⟨g,o,rfl,fun j x hx i u hu=>hc.cell (h j x hx i u hu) (hn g o rfl)⟩
theorem Lies.own {b n c:Nat} {e:TypeId} (hk:k≠0) (hf:∀ x,(f x).length=k) (h:w.ownsRow b e k (.slice A n c) n (xs.flatMap f)):Lies f k w A xs:=by
  by_cases hl:xs=[]
  · exact .inl hl
  · rcases h.2 with ⟨h1,h2⟩ | ⟨g,cap,cur,h1,hb,hg,hn,hc,hs,ht⟩
    · subst h2;have:=h.1;rw [flat_len hf,Nat.zero_mul] at this;rcases Nat.mul_eq_zero.1 this with h0 | h0
      · exact absurd (Zk h0) hl
      · exact absurd h0 hk
    · simp only [Value.slice.injEq] at h1;obtain ⟨rfl,_,rfl⟩:=h1;refine .inr ⟨g,0,rfl,fun j x hx i u hu=>?_⟩;have hi:i<k:=by rw [← hf x];exact (Zn.1 hu).1
      have:=h.cells (g:=g) rfl (j*k+i) u (by rw [flat_get hf hx i hi];exact hu);rwa [Addr.add_lit, ← Nat.add_assoc] at this
end
end Go.Proofs.YtijffkklhgnknaaGreatDoor
/- A map in memory from slots to bytes:what is looked up,laid in,cleared;its keys in order. Conditions:those named. -/
namespace Go.Proofs.YtijffkklhgnknaaGreatDoor
open Go.RowKit Go.Maps Go.Shelf
def itself (v:Value):Option (DataW Value × List MemPlace):=some (.held v,[])
def nos:Value:=.slice none 0 0
def I64 (a:Int):Prop:= -9223372036854775808≤a∧a≤9223372036854775807
theorem int_key:Keyed Tryz.prog 3:=Maps.int_keyed Tryz.underlying3
theorem i64_wf {a:Int} (h:I64 a):(Lit.int .i64 a).wf=true:=by
  obtain ⟨h1,h2⟩:=h;simp [Lit.wf,IntKind.min,IntKind.max,IntKind.bits,IntKind.signed];omega
theorem key_of {a:Int} (h:I64 a):keyOf Tryz.prog 3 (.int .i64 a)=some (.int .i64 a):=Maps.keyOf_int_mk Tryz.underlying3 (i64_wf h)
theorem key_ne {a a':Int} (h:a≠a'):Lit.int .i64 a≠Lit.int .i64 a':=by
  intro e;injection e with _ e
  exact h e
def bvo:Option BV→Value
  | some x=>bvv x
  | none=>.slice none 0 0
def MC (w:World) (b n:Nat) (C:Int→Option BV):Prop:=
  ∃ D:DataW Value,w.ownsMap Tryz.prog 3 itself b n D∧(∀ a:Int,I64 a→D.atKey (.int .i64 a) (.held nos)=.held (bvo (C a))∧Maps.has D (.int .i64 a)=(C a).isSome)∧
    (∀ kl,Maps.has D kl=true→∃ a:Int,I64 a∧kl=.int .i64 a)∧∀ a,(C a).isSome=true→I64 a
def upC (C:Int→Option BV) (a:Int) (x:BV):Int→Option BV:=fun a'=>if a'=a then some x else C a'
theorem upC_same (C:Int→Option BV) (a:Int) (x:BV):upC C a x a=some x:=if_pos rfl
theorem upC_other (C:Int→Option BV) {a a':Int} (x:BV) (h:a'≠a):upC C a x a'=C a':=if_neg h
theorem same_self {k:Lit} (h:WideAt.IsKeyLit k):k.sameKey k=true:=by
  cases hs:k.sameKey k with
  | true=>rfl
  | false=>
    have:=(Maps.notKey_iff (H:=Value) (k:=k) (p:=(k,.held nos)) h).1 (by simp [ChangeMaps.notKey,hs]);exact absurd rfl this
theorem same_eq {x y:Int} (h:(Lit.int .i64 x).sameKey (Lit.int .i64 y)=true):Lit.int .i64 x=Lit.int .i64 y:=by
  by_cases e:Lit.int .i64 x=Lit.int .i64 y
  · exact e
  · rw [sameKey_ne e] at h;cases h
section
variable {w w':World} {b n:Nat} {C:Int→Option BV}
theorem MC.lt (h:MC w b n C):b<w.heap.size:=by obtain ⟨D,h,_⟩:=h;exact h.lt
theorem MC.grown {row:Option Nat} (h:MC w b n C) (hg:w.grownBy w' row) (hne:some b≠row):MC w' b n C:=by
  obtain ⟨D,h,k⟩:=h;exact ⟨D,h.kept hg hne,k⟩
theorem MC.below (h:MC w b n C) (hb:Below w.heap.size w w'):MC w' b n C:=h.grown (row:=none) (grown_of_below hb) (by simp)
theorem MC.chg {F:List Nat} (h:MC w b n C) (hc:Chg F w w') (hn:b ∉ F):MC w' b n C:=by
  have hlt:=h.lt;obtain ⟨D,⟨es,clock,hb,r⟩,k⟩:=h;exact ⟨D,⟨es,clock,(hc.block b hlt hn).trans hb,r⟩,k⟩
theorem MC.mono (h:MC w b n C) {n':Nat} (hn:n≤n'):MC w b n' C:=by
  obtain ⟨D,h,k⟩:=h;exact ⟨D,h.mono hn,k⟩
theorem MC.i64 (h:MC w b n C) {a:Int} (ha:(C a).isSome=true):I64 a:=by
  obtain ⟨D,h,_,_,k⟩:=h;exact k a ha
theorem MC.made (w:World):MC (w.alloc (.map #[] 0)) w.heap.size 0 fun _=>none:=
  ⟨_,World.ownsMap_made w _ _ _,fun a ha=>⟨rfl,rfl⟩,(fun kl h=>by cases h),fun a h=>by cases h⟩
theorem MC.no_cells (h:MC w b n C):∀ cs t fr,w.heap[b]?≠some (.cells cs t fr):=by
  obtain ⟨D,⟨es,clock,hb,r⟩,k⟩:=h;intro cs t fr e;rw [hb] at e;cases e
theorem bytes_zero (w:World):(zeroValue 23).run Tryz.prog w=.ok nos w:=by kernel_rfl
theorem MC.look (h:MC w b n C) {a:Int} (ha:I64 a):(Instr.lookup 65 (.map (some b)) (.int .i64 a) false).run Tryz.prog w=.ok (bvo (C a)) w:=by
  obtain ⟨D,h,k,_⟩:=h;obtain ⟨v,ps,hrun,hv⟩:=h.lookup int_key Tryz.underlying65 (bytes_zero w) (zd:=.held nos) (zp:=[]) rfl (key_of ha);rw [(k a ha).1] at hv;simp only [itself,Option.some.injEq,Prod.mk.injEq,DataW.held.injEq] at hv;rw [hrun,hv.1]
theorem MC.look_ok (h:MC w b n C) {a:Int} (ha:I64 a):(Instr.lookup 65 (.map (some b)) (.int .i64 a) true).run Tryz.prog w=.ok (.tuple #[bvo (C a),.bool (C a).isSome]) w:=by
  obtain ⟨D,h,k,_⟩:=h;obtain ⟨v,ps,hrun,hv⟩:=h.look_ok int_key Tryz.underlying65 (bytes_zero w) (zd:=.held nos) (zp:=[]) rfl (key_of ha);rw [(k a ha).1] at hv;simp only [itself,Option.some.injEq,Prod.mk.injEq,DataW.held.injEq] at hv;rw [hrun,hv.1,(k a ha).2]
theorem MC.put (h:MC w b n C) {a:Int} (ha:I64 a) (hn:n<maxLen) (x:BV):
    ∃ w',(Instr.mapUpdate 65 (.map (some b)) (.int .i64 a) (bvv x)).run Tryz.prog w=.ok () w'∧MC w' b (n+1) (upC C a x)∧w.grownBy w' (some b):=by
  obtain ⟨D,h,k,q,r⟩:=h;obtain ⟨w',hrun,hown,hg⟩:=h.update int_key Tryz.underlying65 hn (key_of ha) (val:=bvv x) (d:=.held (bvv x)) (ps:=[]) rfl;have hm:=h.isMap;have hkey:=int_key.key (key_of ha);refine ⟨w',hrun,⟨_,hown,fun a' ha'=>?_,fun kl hkl=>?_,fun a' ha'=>?_⟩,hg⟩
  · by_cases hes:a'=a
    · subst hes;rw [atKey_put_same hm hkey,has_put_same hm hkey,upC_same];exact ⟨rfl,rfl⟩
    · rw [atKey_put_other (key_ne hes),has_put_other (key_ne hes),upC_other _ _ hes];exact k a' ha'
  · by_cases e:kl=.int .i64 a
    · exact ⟨a,ha,e⟩
    · rw [has_put_other e] at hkl;exact q kl hkl
  · by_cases hes:a'=a
    · subst hes;exact ha
    · rw [upC_other _ _ hes] at ha';exact r a' ha'
theorem MC.clear_ (h:MC w b n C) (ty:TypeId):∃ w',(Builtin.clear_ #[65] ty #[.map (some b)]).run Tryz.prog w=.ok (.tuple #[]) w'∧MC w' b 0 (fun _=>none)∧w.grownBy w' (some b):=by
  obtain ⟨D,⟨es,clock,hb,F,hs,hD⟩,k,q⟩:=h;have hlt:b<w.heap.size:=(Array.getElem?_eq_some_iff.1 hb).1;refine ⟨ChangeMaps.setBlock w b (.map #[] clock),?_,⟨.map [],⟨#[],clock,(MapKept.heap_set hb).1,⟨by simp,MapKept.stamped_empty _,by simp⟩,Zj _,rfl⟩,fun a ha=>⟨rfl,rfl⟩,(fun kl h=>by cases h),fun a h=>by cases h⟩,?_⟩
  · simp [Builtin.clear_,run_underlying Tryz.underlying65,MapKept.run_getObj_map hb,MapKept.run_setObj_map _ hb,Result.andThen];rfl
  · exact ⟨rfl,rfl,rfl,by simp [ChangeMaps.setBlock],fun j hj hne=>(MapKept.heap_set hb).2 j (fun e=>hne (by rw [e]))⟩
structure Keys (C:Int→Option BV) (n:Nat) (ks:List Int):Prop where
  lt:ks.Pairwise (· < ·)
  mem:∀ z,z ∈ ks↔(C z).isSome=true
  le:ks.length≤n
def kcs (z:Int):List Value:=[.int .i64 z]
theorem kcs_len (z:Int):(kcs z).length=1:=rfl
theorem kcs_flat (l:List Int):l.flatMap kcs=l.map (Value.int .i64):=by
  induction l with
  | nil=>rfl
  | cons a t ih=>rw [List.flatMap_cons,List.map_cons,ih];rfl
theorem sorts_in (m:Nat):AnyZI.SortsIn Tryz.prog Tryz.sortedA_ren Fence.wide m:=
  ⟨fun blk off cap ss W hH hblk hsz=>callsIn_wide.2 (Tryz.slices_Sort_int blk off cap ss W hH hblk hsz),
   fun p cap W=>callsIn_wide.2 (Tryz.slices_Sort_int_none p cap W)⟩
theorem keys_call (mb:Option Nat) (W:World):Calls Tryz.prog 128 #[.map mb] W fun e w'=>e=.returned (.func (.func 142) #[] #[.pointer (some ⟨W.heap.size,0,none⟩)])∧w'=W.alloc (.cells #[.map mb] 65):=
  callsIn_wide.1 (AnyZI.keys_in Tryz.keysA Fence.wide 5 trivial rfl mb W)
def SortedKeys (C:Int→Option BV) (n:Nat) (w:World) (e:Ending) (w':World):Prop:=∃ ks A c,e=.returned (.slice A ks.length c)∧Hid (Keys C n ks)∧Hid (w'.ownsRow w.heap.size 3 1 (.slice A ks.length c) ks.length (ks.flatMap kcs))∧Hid (Below w.heap.size w w')
theorem MC.sorted (h:MC w b n C) (hn:n≤1000000):Calls Tryz.prog 127 #[.func (.func 142) #[] #[.pointer (some ⟨w.heap.size,0,none⟩)]] (w.alloc (.cells #[.map (some b)] 65)) (SortedKeys C n (w.alloc (.cells #[.map (some b)] 65))):=by
  obtain ⟨D,hown,k,q,r⟩:=h;have hbl:=hown.lt;have hle:=hown.size_le;obtain ⟨es,hD,hpw,hkk⟩:=hown.entries int_key;subst hD;rw [size_eq] at hle;have hnum:∀ p ∈ es,∃ a:Int,I64 a∧p.1=.int .i64 a:=fun p hp=>q p.1 (by rw [has_eq];exact List.any_eq_true.2 ⟨p,hp,same_self (hkk p hp)⟩)
  have hnd0:(es.map fun p=>Go.intOf p.1).Nodup:=by
    refine List.pairwise_map.2 (hpw.imp_of_mem fun {p q} hp' hq' hne e=>hne ?_);obtain ⟨a,_,ha⟩:=hnum p hp';obtain ⟨c,_,hc⟩:=hnum q hq';rw [ha,hc] at e ⊢;simp only [Go.intOf] at e;rw [e]
  have hseq:SeqGives Fence.wide 2 Tryz.prog 142 #[.pointer (some ⟨w.heap.size,0,none⟩)] encZ (fun ss=>ss.Perm (intKeys (.map es))) (Maps.size (.map es)) (w.alloc (.cells #[.map (some b)] 65)):=
    AnyZI.keys_gives (ρ:=Tryz.keysA_ren) { Tryz.keysA with } Fence.wide _ trivial rfl (by omega) w.heap.size b n (.map es) _ (by simp) (by simp) (by
      obtain ⟨es',clock,hb,Ft,hs,hD⟩:=hown;exact ⟨es',clock,(Below.heap_alloc _ _ b hbl).trans hb,Ft,hs,hD⟩)
  have hS:=AnyZI.sorted_in Tryz.sortedA Fence.wide 5 trivial trivial trivial trivial rfl (by omega) (sorts_in _) (enters_of Tryz.func141 (by kernel_rfl) rfl) 142 #[.pointer (some ⟨w.heap.size,0,none⟩)] trivial (enters_of Tryz.func142 (by kernel_rfl) rfl) _ _ (by rw [size_eq];unfold maxLen;omega) (by rw [size_eq];omega) _ hseq;refine (callsIn_wide.1 hS).mono ?_;rintro e w' ⟨v,ss,rfl,hp,hrow,_,hb⟩;obtain ⟨ks,hks⟩:∃ ks,ss.mergeSort (fun x y=>decide (x≤y))=ks:=⟨_,rfl⟩;have hperm:ks.Perm (es.map fun p=>Go.intOf p.1):=by rw [← hks];exact (List.mergeSort_perm ss _).trans hp
  have hK:Keys C n ks:=by
    refine ⟨?_,fun x=>?_,?_⟩
    · have h1:ks.Pairwise (fun x y=>decide (x≤y)=true):=by rw [← hks];exact List.pairwise_mergeSort (fun a b c h1 h2=>by simp only [decide_eq_true_eq] at*;omega) (fun a b=>by simp only [Bool.or_eq_true,decide_eq_true_eq];omega) ss
      have hnd:ks.Nodup:=hperm.nodup_iff.2 hnd0;refine List.Pairwise.imp ?_ (h1.and hnd);rintro a c ⟨h2,h3⟩;simp only [decide_eq_true_eq] at h2;omega
    · rw [hperm.mem_iff];constructor
      · intro hx;obtain ⟨p,hp',rfl⟩:=List.mem_map.1 hx;obtain ⟨a,ha,e⟩:=hnum p hp';have e2:Go.intOf p.1=a:=by rw [e];rfl
        rw [e2, ← (k a ha).2,has_eq, ← e];exact List.any_eq_true.2 ⟨p,hp',same_self (hkk p hp')⟩
      · intro h1;rw [← (k x (r x h1)).2,has_eq] at h1;obtain ⟨p,hp',h2⟩:=List.any_eq_true.1 h1;obtain ⟨c,_,hc⟩:=hnum p hp';refine List.mem_map.2 ⟨p,hp',?_⟩;rw [hc] at h2 ⊢;have:=same_eq h2;injection this with _ this
    · rw [hperm.length_eq,List.length_map];exact hle
  rw [hks] at hrow;have hl2:ss.length=ks.length:=by rw [← hks,List.length_mergeSort]
  rw [hl2] at hrow;have hrow2:w'.ownsRow (w.alloc (.cells #[.map (some b)] 65)).heap.size 3 1 v ks.length (ks.flatMap kcs):=by rw [kcs_flat];exact hrow
  obtain ⟨A,c,rfl⟩:=own_sl hrow2;exact ⟨ks,A,c,rfl,Za hK,Za hrow2,Za hb⟩
end
end Go.Proofs.YtijffkklhgnknaaGreatDoor
/- Steps of a walk:a new variable of one cell;a map cleared. No conditions but those named. -/
namespace Go.Proofs.YtijffkklhgnknaaGreatDoor
open Go.RowKit
section
variable {P:Program} {ops:Array Oper} {rest:List Oper} {o:Oper} {a:Act} {w:World} {Q:Exit→Act→World→Prop}
theorem step_new (hgd:o.guard=none) (t:TypeId) (ho:o.op=.alloc t) (z:Value) (hz:∀ w:World,(zeroValue t).run P w=.ok z w) (hc:z.cells=#[z])
    (h:∀ g w',Row w' g t [z]→Hid (g=w.heap.size)→Below w.heap.size w w'→wpList P ops Q rest (a.put o.dst (.pointer (some ⟨g,0,none⟩))) w'):wpList P ops Q (o::rest) a w:=by
  refine wpList_plain hgd fun K hK=>?_;unfold Oper.wp execOp;simp only [ho];simp [Instr.alloc,hz,newVar,go_sem];exact hK _ _ (h _ _ (cast (congrArg (fun c:Array Value=>Row (w.alloc (.cells c t)) w.heap.size t [z]) hc.symm) (Row.made w t [z])) (show _=_ from rfl) ((Below.refl _ _).alloc (Zj _) _))
theorem step_box1 (hgd:o.guard=none) (t:TypeId) (x:Operand) (ho:o.op=.box t x) (z:Value) (hx:a.eval x=z) (hc:z.cells=#[z])
    (h:∀ g w',Row w' g t [z]→Hid (g=w.heap.size)→Below w.heap.size w w'→wpList P ops Q rest (a.put o.dst (.pointer (some ⟨g,0,none⟩))) w'):wpList P ops Q (o::rest) a w:=by
  refine wpList_plain hgd fun K hK=>?_;unfold Oper.wp execOp;simp only [ho,hx];simp [Instr.box,newVar,go_sem];exact hK _ _ (h _ _ (cast (congrArg (fun c:Array Value=>Row (w.alloc (.cells c t)) w.heap.size t [z]) hc.symm) (Row.made w t [z])) (show _=_ from rfl) ((Below.refl _ _).alloc (Zj _) _))
end
section
variable {ops:Array Oper} {rest:List Oper} {o:Oper} {a:Act} {w:World} {Q:Exit→Act→World→Prop}
theorem wp_clear (hgd:o.guard=none) (x:Operand) (ho:o.op=.call { callee:=.builtin .clear,args:=#[x],argTypes:=#[65] }) (b n:Nat) (C:Int→Option BV) (hx:a.eval x=.map (some b)) (hm:MC w b n C)
    (h:∀ w',MC w' b 0 (fun _=>none)→w.grownBy w' (some b)→wpList Tryz.prog ops Q rest (a.put o.dst (.tuple #[])) w'):wpList Tryz.prog ops Q (o::rest) a w:=by
  refine wpList_plain hgd fun K hK=>?_;obtain ⟨w',hr,h1,h2⟩:=hm.clear_ o.type;unfold Oper.wp execOp;simp only [ho,resolve,invoke,builtin,Sem.run_bind,Sem.run_pure,Zw,List.map_toArray,List.map_cons,List.map_nil,hx,hr];exact hK _ _ (h w' h1 h2)
end
theorem row_more {α:Type} {f:α→List Value} {k:Nat} {B:Nat} {W w w':World} {A:Option Addr} {n c:Nat} {e:TypeId} {xs:List α} {x:α} {v':Value} {o:Obj} (hb:Below B W w) (hB:B≤w.heap.size)
    (hown:w.ownsRow B e k (.slice A n c) n (xs.flatMap f)) (h1:w'.ownsRow B e k v' (n+1) (xs.flatMap f++f x)) (hg:(w.alloc o).grownBy w' (Value.slice A n c).ownBlock):
    ∃ A' c',v'=.slice A' (n+1) c'∧w'.ownsRow B e k (.slice A' (n+1) c') (n+1) ((xs++[x]).flatMap f)∧Below B W w':=by
  obtain ⟨A',c',rfl⟩:=own_sl h1;refine ⟨A',c',rfl,by rw [flat_snoc];exact h1,?_⟩;exact (hb.alloc hB o).grown hg (by simp;omega) (fun k hk=>(hown.lt k hk).1)
theorem own8_more {B b:Nat} {w w':World} {A:Option Addr} {n c k:Nat} {e:TypeId} {xs:List Value} {x:BV} {o:Obj} (he:5≠e) (hown:w.ownsRow B e k (.slice A n c) n xs) (h:Own8 b w x) (hg:(w.alloc o).grownBy w' (Value.slice A n c).ownBlock):Own8 b w' x:=
  World.ownsRow.kept (World.ownsRow.kept h (World.grownBy_alloc w o none) (by cases hx:(bvv x).ownBlock with | none=>exact .inl rfl | some k=>exact .inr (by simp))) hg (own_parted h hown he)
/- Steps of a region that draws,one by one:a row made,a row stored. No conditions. -/
section
variable {P:Program} {ops:Array Oper} {o:Oper} {a:Act} {w:World} {Q:Exit→Act→World→Prop} {K:Act→World→Prop} {E:Prop}
theorem st_alloc (hw:Region.wanted o (yielded ops a.tmps)=true) (t:TypeId) (ho:o.op=.alloc t) (cs:List Value) (hz:∀ w:World,(zeroValue t).run P w=.ok (.agg cs.toArray) w)
    (h:∀ g w',Row w' g t cs→Hid (g=w.heap.size)→Below w.heap.size w w'→K (a.put o.dst (.pointer (some ⟨g,0,none⟩))) w'):if Region.wanted o (yielded ops a.tmps)=true then Oper.wp P o a w K Q else E:=by
  rw [if_pos hw];unfold Oper.wp execOp;simp only [ho];simp [Instr.alloc,hz,newVar,go_sem];exact h _ _ (Row.made w t cs) (show _=_ from rfl) ((Below.refl _ _).alloc (Zj _) _)
theorem st_store (hw:Region.wanted o (yielded ops a.tmps)=true) (ty:TypeId) (x y:Operand) (ho:o.op=.store ty x y) (g:Nat) (hx:a.eval x=.pointer (some ⟨g,0,none⟩)) (t:TypeId) (old cs:List Value) (hy:a.eval y=.agg cs.toArray)
    (hr:Row w g t old) (hl:old.length=cs.length) (hi:(P.info? ty).map (·.size)=some cs.length) (h1:∀ v ∈ cs,v.oneCell'=true)
    (h:∀ w',Row w' g t cs→w.grownBy w' (some g)→K (a.put o.dst undef) w'):if Region.wanted o (yielded ops a.tmps)=true then Oper.wp P o a w K Q else E:=by
  rw [if_pos hw];refine wp_store_row ty x y ho g cs.toArray hx hy t old.toArray hr (by simpa using hi) (by simpa using hl) (all_oneCell_toArray h1) ?_;exact h _ (setRow_heap w g _ _ t _ hr) ⟨rfl,rfl,rfl,by simp,fun k hk hne=>setRow_other w g k _ (fun e=>hne (by rw [e]))⟩
theorem run_eql_op {P:Program} (w:World) {a:Act} (o:Oper) (t t':TypeId) (x y:Operand) (ho:o.op=.binOp .eql t x y t') (xs ys:Array Value) (hx:a.eval x=.agg xs) (hy:a.eval y=.agg ys) (hg:P.eqGuardType P.depth t=false) (b:Bool)
    (he:∀ w,(Op.equalIn 10000 t (.agg xs) (.agg ys)).run P w=.ok b w):(execOp a.eval o).run P w=.ok (.value (.bool b)) w:=by
  unfold execOp;simp only [ho,hx,hy,Sem.run_bind,run_eqGuard_agg w _ t x y xs ys hg,run_eql_struct,he,Zw];rfl
theorem run_build_op {P:Program} (w:World) {a:Act} (o:Oper) (t:TypeId) (parts:Array (Nat × Operand)) (ho:o.op=.build t parts) (vs:List (Nat × Value)) (hv:(parts.map fun (i,x)=>(i,a.eval x)).toList=vs) (cells:Array Value) (hb:P.built t vs=some cells):(execOp a.eval o).run P w=.ok (.value (.agg cells)) w:=by
  subst hv;unfold execOp;simp only [ho,Sem.run_bind,run_build w t _ cells hb,Zw];rfl
end
/- Entries as they lie in memory;what compares them. Conditions:those named. -/
set_option maxRecDepth 20000
structure Ent where
  nm:ByteArray
  ino:Int
  ser:Nat
  kind:Int
  ck:Nat
def ecs (e:Ent):List Value:=[.string e.nm,.int .i64 e.ino,.int .u64 (e.ser:Int),.int .i64 e.kind,.int .u32 (e.ck:Int)]
def ent0:Ent:=⟨ByteArray.empty,0,0,0,0⟩
theorem ecs_len (e:Ent):(ecs e).length=5:=rfl
theorem ecs_one (e:Ent):∀ v ∈ ecs e,v.oneCell'=true:=by
  intro v hv;simp only [ecs,List.mem_cons,List.mem_nil_iff,or_false] at hv;rcases hv with rfl | rfl | rfl | rfl | rfl <;> rfl
theorem rec_ent:Rec Tryz.prog 46 61 5:=rec_of (z:=.agg (ecs ent0).toArray) (n:=48) Tryz.underlying46 (by kernel_rfl) (by decide) rfl (by decide)
theorem info_ent (e:Ent):(Tryz.prog.info? 61).map (·.size)=some (ecs e).length:=by rw [ecs_len];kernel_rfl
theorem zero_ent (w:World):(zeroValue 61).run Tryz.prog w=.ok (.agg (ecs ent0).toArray) w:=by kernel_rfl
def cmpv (x y:Nat):Int:=if x<y then -1 else if y<x then 1 else 0
theorem cmpv_neg (x y:Nat):cmpv x y<0↔x<y:=by
  unfold cmpv
  split
  · exact ⟨fun _=>by assumption,fun _=>by decide⟩
  · split
    · exact ⟨fun h=>absurd h (by decide),fun h=>by omega⟩
    · exact ⟨fun h=>absurd h (by decide),fun h=>by omega⟩
theorem isnan_any (z:Int) (w:World):Calls Tryz.prog 136 #[.int .u32 z] w fun e w'=>e=.returned (.bool false)∧w=w':=by
  go_enter Tryz.func136,Tryz.ntmps136;go_wp2;go_ret;exact ⟨rfl,rfl⟩
theorem compare_any (x y:Nat) (w:World):Calls Tryz.prog 122 #[.int .u32 (x:Int),.int .u32 (y:Int)] w fun e w'=>e=.returned (.int .i64 (cmpv x y))∧w=w':=by
  unfold cmpv;by_cases h1:x<y
  · have h1i:(x:Int)<(y:Int):=by omega
    rw [if_pos h1];clear h1;go_enter Tryz.func122,Tryz.ntmps122;go_wp2_with (go_at_call 136;refine (isnan_any _ _).mono ?_;rintro e w1 ⟨rfl,rfl⟩);go_ret;exact ⟨rfl,rfl⟩
  · have h1i:¬ (x:Int)<(y:Int):=by omega
    rw [if_neg h1];clear h1;by_cases h2:y<x
    · have h2i:(y:Int)<(x:Int):=by omega
      rw [if_pos h2];clear h2;go_enter Tryz.func122,Tryz.ntmps122;go_wp2_with (go_at_call 136;refine (isnan_any _ _).mono ?_;rintro e w1 ⟨rfl,rfl⟩);go_ret;exact ⟨rfl,rfl⟩
    · have h2i:¬ (y:Int)<(x:Int):=by omega
      rw [if_neg h2];clear h2;go_enter Tryz.func122,Tryz.ntmps122;go_wp2_with (go_at_call 136;refine (isnan_any _ _).mono ?_;rintro e w1 ⟨rfl,rfl⟩);go_ret;exact ⟨rfl,rfl⟩
theorem ckey_any (e:Ent) (w:World):Calls Tryz.prog 93 #[.agg (ecs e).toArray] w fun x w'=>x=.returned (.int .u32 (e.ck:Int))∧Below w.heap.size w w':=by
  go_enter Tryz.func93,Tryz.ntmps93
  go_wp2_with (refine step_box rfl 1 rfl 61 (.tmp 0) rfl (ecs e) rfl ?_;intro g w2 hr2 hg2 hb2 hs2;have HB:=Za hb2
               have c4:w2.cell? ⟨g,4,none⟩=some (.int .u32 (e.ck:Int)):=(hr2.cell 4).trans rfl;clear hr2 hg2 hb2 hs2)
  go_ret;exact ⟨rfl,HB.out⟩
theorem behind_any (e:Ent) (g after:Nat) (w:World) (hc:w.cell? ⟨g,0,none⟩=some (.int .u32 (after:Int))):Calls Tryz.prog 59 #[.agg (ecs e).toArray,.pointer (some ⟨g,0,none⟩)] w fun x w'=>x=.returned (.bool (decide (after<e.ck)))∧Below w.heap.size w w':=by
  have HC:=Za hc;have HL:=Za (Ya w _ hc);obtain ⟨z,hz⟩:∃ z:Bool,decide (after<e.ck)=z:=⟨_,rfl⟩;have HZ:=Za hz;rw [hz];clear hc hz;go_enter Tryz.func59,Tryz.ntmps59
  go_wp2_with (refine step_box rfl 2 rfl 61 (.tmp 0) rfl (ecs e) rfl ?_;intro g2 w2 hr2 hg2 hb2 hs2;have HB:=Za hb2
               have c4:w2.cell? ⟨g2,4,none⟩=some (.int .u32 (e.ck:Int)):=(hr2.cell 4).trans rfl;have ca:w2.cell? ⟨g,0,none⟩=some (.int .u32 (after:Int)):=(hb2.cell (p:=⟨g,0,none⟩) HL.out).trans HC.out;clear hr2 hg2 hb2 hs2)
  go_ret;exact ⟨by simp [HZ.out],HB.out⟩
end Go.Proofs.YtijffkklhgnknaaGreatDoor
/- Plain facts about runes:the runes of a text,which names may be,and the order of texts. No program is in sight here,and no conditions. -/
namespace Go.Proofs.YtijffkklhgnknaaGreatDoor
open Go.Lib
def dlGo:Nat→List UInt8→List Nat
  | 0,_=>[]
  | n+1,l=>if l=[] then [] else (decodeL l).1::dlGo n (l.drop (decodeL l).2)
def dlD (l:List UInt8):List Nat:=dlGo l.length l
def fst (l:List UInt8):Int × Nat:=if decodeL l=(65533,1) then (-1,1) else ((decodeL l).1,(decodeL l).2)
def rlGo:Nat→List UInt8→List Int
  | 0,_=>[]
  | n+1,l=>if l=[] then [] else (fst l).1::rlGo n (l.drop (decodeL l).2)
def rl (l:List UInt8):List Int:=rlGo l.length l
theorem fst_width (l:List UInt8):(fst l).2=(decodeL l).2:=by
  unfold fst
  split
  · rename_i h
    rw [h]
  · rfl
theorem dlGo_nil:∀ n,dlGo n []=[]
  | 0=>rfl
  | _+1=>by simp [dlGo]
theorem rlGo_nil:∀ n,rlGo n []=[]
  | 0=>rfl
  | _+1=>by simp [rlGo]
theorem dlGo_fuel:∀ (n m:Nat) (l:List UInt8),l.length≤n→l.length≤m→dlGo n l=dlGo m l
  | 0,m,l,hn,_=>by
    have:l=[]:=Zk (by omega);subst this;rw [dlGo_nil,dlGo_nil]
  | n+1,0,l,_,hm=>by
    have:l=[]:=Zk (by omega);subst this;rw [dlGo_nil,dlGo_nil]
  | n+1,m+1,l,hn,hm=>by
    unfold dlGo;by_cases hne:l=[]
    · simp [hne]
    · have hw:=decodeL_width l;have hl:0<l.length:=List.length_pos_iff.2 hne;rw [if_neg hne,if_neg hne,dlGo_fuel n m (l.drop (decodeL l).2) (by rw [Zs];omega) (by rw [Zs];omega)]
theorem rlGo_fuel:∀ (n m:Nat) (l:List UInt8),l.length≤n→l.length≤m→rlGo n l=rlGo m l
  | 0,m,l,hn,_=>by
    have:l=[]:=Zk (by omega);subst this;rw [rlGo_nil,rlGo_nil]
  | n+1,0,l,_,hm=>by
    have:l=[]:=Zk (by omega);subst this;rw [rlGo_nil,rlGo_nil]
  | n+1,m+1,l,hn,hm=>by
    unfold rlGo;by_cases hne:l=[]
    · simp [hne]
    · have hw:=decodeL_width l;have hl:0<l.length:=List.length_pos_iff.2 hne;rw [if_neg hne,if_neg hne,rlGo_fuel n m (l.drop (decodeL l).2) (by rw [Zs];omega) (by rw [Zs];omega)]
theorem rl_nil:rl []=[]:=rfl
theorem dl_step (l:List UInt8) (hne:l≠[]):dlD l=(decodeL l).1::dlD (l.drop (decodeL l).2):=by
  have hl:0<l.length:=List.length_pos_iff.2 hne;have hw:=decodeL_width l;obtain ⟨n,hn⟩:∃ n,l.length=n+1:=⟨l.length - 1,by omega⟩;unfold dlD;rw [hn];show (if l=[] then [] else _)=_;rw [if_neg hne,dlGo_fuel n (l.drop (decodeL l).2).length _ (by rw [Zs];omega) (Zj _)]
theorem rl_step (l:List UInt8) (hne:l≠[]):rl l=(fst l).1::rl (l.drop (decodeL l).2):=by
  have hl:0<l.length:=List.length_pos_iff.2 hne;have hw:=decodeL_width l;obtain ⟨n,hn⟩:∃ n,l.length=n+1:=⟨l.length - 1,by omega⟩;unfold rl;rw [hn];show (if l=[] then [] else _)=_;rw [if_neg hne,rlGo_fuel n (l.drop (decodeL l).2).length _ (by rw [Zs];omega) (Zj _)]
theorem rune_ind {p:List UInt8→Prop} (h0:p []) (h1:∀ l,l≠[]→p (l.drop (decodeL l).2)→p l) (l:List UInt8):p l:=by
  have key:∀ n (l:List UInt8),l.length≤n→p l:=by
    intro n
    induction n with
    | zero=>
      intro l hl;rw [Zk (by omega:l.length=0)];exact h0
    | succ n ih=>
      intro l hl;by_cases hne:l=[]
      · rw [hne];exact h0
      · refine h1 l hne (ih _ ?_);have hw:=decodeL_width l;rw [Zs];have:0<l.length:=List.length_pos_iff.2 hne;omega
  exact key l.length l (Zj _)
theorem rl_len (l:List UInt8):(rl l).length≤l.length:=by
  induction l using rune_ind with
  | h0=>simp [rl_nil]
  | h1 l hne ih=>
    rw [rl_step l hne];have hw:=decodeL_width l;have:0<l.length:=List.length_pos_iff.2 hne;rw [Zs] at ih;simp only [List.length_cons];omega
def fix_ (r:Int):Nat:=if r<0 then 65533 else r.toNat
theorem fix_fst (l:List UInt8):fix_ (fst l).1=(decodeL l).1:=by
  unfold fst fix_;by_cases h:decodeL l=(65533,1)
  · rw [if_pos h,h];rfl
  · rw [if_neg h];simp;omega
theorem fst_range (l:List UInt8): -1≤(fst l).1∧(fst l).1≤1114111:=by
  unfold fst
  split
  · simp
  · have:=decodeL_rune l;simp;omega
theorem rl_dl (l:List UInt8):(rl l).map fix_=dlD l:=by
  induction l using rune_ind with
  | h0=>rfl
  | h1 l hne ih=>rw [rl_step l hne,dl_step l hne,List.map_cons,ih,fix_fst]
theorem valid_rl (l:List UInt8):validD l=(rl l).all (fun r=>decide (0≤r)):=by
  induction l using rune_ind with
  | h0=>rfl
  | h1 l hne ih=>
    rw [validD_step l hne,rl_step l hne,List.all_cons, ← ih];unfold fst;by_cases h:decodeL l=(65533,1)
    · rw [if_pos h,if_pos (by rw [h];exact ⟨rfl,rfl⟩)];simp
    · rw [if_neg h,if_neg (fun hh=>h (Prod.ext hh.1 hh.2))];simp
def okR (c:Nat):Bool:=decide (32≤c) && decide (c≠47) && decide (c≠127)
def okI (r:Int):Bool:= !(decide (r<32) || decide (r=47) || decide (r=127))
theorem ok_both (l:List UInt8):(validD l && (dlD l).all okR)=(rl l).all okI:=by
  rw [valid_rl, ← rl_dl,List.all_map]
  have : ∀ rs:List Int,(rs.all (fun r=>decide (0≤r)) && rs.all (okR ∘ fix_))=rs.all okI:=by
    intro rs
    induction rs with
    | nil=>rfl
    | cons r rs ih=>
      simp only [List.all_cons];rw [← ih]
      have e:(decide (0≤r) && (okR ∘ fix_) r)=okI r:=by
        show (decide (0≤r) && okR (fix_ r))=okI r;by_cases h:r<0
        · have h1:¬ (0≤r):=by omega
          have h2:r<32:=by omega
          simp [okI,h1,h2]
        · obtain ⟨n,rfl⟩:=Int.eq_ofNat_of_zero_le (by omega:0≤r);have ef:fix_ (n:Int)=n:=by unfold fix_;rw [if_neg h];rfl
          rw [ef,Bool.eq_iff_iff];simp [okR,okI];omega
      rw [← e];generalize decide (0≤r)=p1;generalize (okR ∘ fix_) r=p2;generalize rs.all (fun r=>decide (0≤r))=p3;generalize rs.all (okR ∘ fix_)=p4;cases p1 <;> cases p2 <;> cases p3 <;> cases p4 <;> rfl
  exact this _
def nameR (l:List UInt8):Int:=
  if l=[]∨l=[46]∨l=[46,46] then 22 else if validD l && (dlD l).all okR then (if 32<l.length then 36 else 0) else 22
def lex:List Nat→List Nat→Bool
  | [],y=> !y.isEmpty
  | _::_,[]=>false
  | x::xs,y::ys=>if x≠y then decide (x<y) else lex xs ys
def lessD (a b:List UInt8):Bool:=lex (dlD a) (dlD b)
theorem lex_trans:∀ a b c,lex a b=true→lex b c=true→lex a c=true
  | [],[],_,h,_=>by simp [lex] at h
  | [],_::_,[],_,h=>by simp [lex] at h
  | [],_::_,_::_,_,_=>rfl
  | _::_,[],_,h,_=>by simp [lex] at h
  | _::_,_::_,[],_,h=>by simp [lex] at h
  | x ::xs,y::ys,z::zs,h,k=>by
    unfold lex at h k ⊢;by_cases e1:x=y
    · subst e1;simp at h;by_cases e2:x=z
      · subst e2;simp at k ⊢;exact lex_trans xs ys zs h k
      · rw [if_pos e2] at k ⊢;exact k
    · rw [if_pos e1] at h;by_cases e2:y=z
      · subst e2;rw [if_pos e1];exact h
      · rw [if_pos e2] at k;simp at h k;rw [if_pos (by omega)];simp;omega
theorem lex_drop (x y:List Nat) (i:Nat) (hx:i<x.length) (hy:i<y.length):lex (x.drop i) (y.drop i)=if x[i]≠y[i] then decide (x[i]<y[i]) else lex (x.drop (i+1)) (y.drop (i+1)):=by
  rw [List.drop_eq_getElem_cons hx,List.drop_eq_getElem_cons hy];rfl
theorem lex_end (x y:List Nat) (i:Nat) (h:x.length≤i∨y.length≤i) (hx:i≤x.length) (hy:i≤y.length):lex (x.drop i) (y.drop i)=decide (x.length<y.length):=by
  by_cases h1:x.length≤i
  · rw [List.drop_eq_nil_of_le h1];by_cases h2:y.length≤i
    · rw [List.drop_eq_nil_of_le h2];have:¬ x.length<y.length:=by omega
      simp [lex,this]
    · have hiy:i<y.length:=by omega
      have e:=List.drop_eq_getElem_cons hiy;have:x.length<y.length:=by omega
      rw [e];simp only [lex,List.isEmpty_cons,this,decide_true,Bool.not_false]
  · have hix:i<x.length:=by omega
    have e:=List.drop_eq_getElem_cons hix;have:¬ x.length<y.length:=by omega
    rw [e,List.drop_eq_nil_of_le (by omega:y.length≤i)];simp only [lex,this,decide_false]
theorem decodeN_fits (n b0 b1 b2 b3:Nat) (h0:0<n):(decodeN n b0 b1 b2 b3).2≤n:=by
  unfold decodeN
  repeat' split
  all_goals simp
  all_goals omega
theorem decodeL_fits (l:List UInt8) (hne:l≠[]):(decodeL l).2≤l.length:=by
  rw [decodeL_N];exact decodeN_fits _ _ _ _ _ (List.length_pos_iff.2 hne)
end Go.Proofs.YtijffkklhgnknaaGreatDoor
