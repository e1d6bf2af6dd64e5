/- slices.Collect of slices.Chunk at 256 bytes: the pieces, in order. Conditions: the bytes' length is a multiple of 256. -/
import Derived.Test.YtijffkklhgnknaaGreatDoorAz
import Derived.Test.YtijffkklhgnknaaGreatDoorMgNd
import Derived.RangeFuncBox
import Derived.Maps.AppendAt
import Derived.Test.YtijffkklhgnknaaGreatDoorMgChg
import Derived.Test.YtijffkklhgnknaaGreatDoorMgRa
import Derived.Test.YtijffkklhgnknaaGreatDoorMgRe
set_option maxHeartbeats 20000000
set_option linter.unusedVariables false
namespace Go.Proofs.YtijffkklhgnknaaGreatDoor
open Go.RowKit Go.Shelf
attribute [local go_sem] Oper.semAt_some
theorem grown_drew (W:World):W.grownBy W.drew none:=⟨rfl,rfl,rfl,Zj _,fun _ _ _=>rfl⟩
theorem chunk_stops (F:Fence) (n:Nat) (h7:F.fn 83) (hro:F.round=none) (hn:1≤n) (Bs Bn n0:Nat) (A:Option Addr) (g o c m L:Nat) (hL:m*256=L) (hm:m≤100000) (hA:0<m→A=some ⟨g,o,none⟩) (hc:L≤c) (w:World) (hB0:Bs<n0) (hB1:Bn<n0) (hn0:n0≤w.heap.size)
    (hs:w.cell? ⟨Bs,0,none⟩=some (.slice A L c)) (hn2:w.cell? ⟨Bn,0,none⟩=some (.int .i64 256)):
    SeqStopsK F n Tryz.prog 83 #[.pointer (some ⟨Bs,0,none⟩),.pointer (some ⟨Bn,0,none⟩)] encP (Below n0) (fun ys=>ys=pieces g o m) (fun pre=>∃ k,k≤m∧pre=pieces g o k) m w:=fun l J Jx W hb hJ _ hY h0=>
  chunk1_in F n h7 hro hn l Bs Bn n0 A g o c m L hL hm hA hc J Jx (fun s V hs=>hJ s V _ none hs (grown_drew V) (fun r e=>by cases e)) hY W ((hb.cell (p:=⟨Bs,0,none⟩) (by show Bs<w.heap.size;omega)).trans hs) ((hb.cell (p:=⟨Bn,0,none⟩) (by show Bn<w.heap.size;omega)).trans hn2) hB0 hB1 h0
theorem chunk_any (A:Option Addr) (len cap:Nat) (w:World):
    Calls Tryz.prog 41 #[.slice A len cap,.int .i64 256] w fun e w'=>∃ Bs Bn,e=.returned (.func (.func 83) #[] #[.pointer (some ⟨Bs,0,none⟩),.pointer (some ⟨Bn,0,none⟩)])∧Hid (w'.cell? ⟨Bs,0,none⟩=some (.slice A len cap)∧w'.cell? ⟨Bn,0,none⟩=some (.int .i64 256))∧Hid (Below w.heap.size w w'):=by
  have hmf:∀ (fn:Fn) (first cap:Array Value) (w:World),(Instr.makeFunc fn first cap).run Tryz.prog w=.ok (.func fn first cap) w:=fun _ _ _ _=>rfl;go_enter Tryz.func41,Tryz.ntmps41
  go_wp2_with (first
    | (refine step_box1 rfl 23 _ rfl (.slice A len cap) rfl rfl ?_;intro g1 w1 hr1 hg1 hb1;have R1:=Za hr1
       have B1:=Za hb1;clear hr1 hg1 hb1)
    | (refine step_box1 rfl 3 _ rfl (.int .i64 256) rfl rfl ?_;intro g2 w2 hr2 hg2 hb2;have R2:=Za hr2
       have R1b:=Za (R1.out.kept hb2);have B2:=Za (below_nxt hb2 B1.out);have c2:w2.cell? ⟨g2,0,none⟩=some (.int .i64 256):=(hr2.cell 0).trans rfl;clear hr2 hg2 hb2))
  go_ret;exact ⟨_,_,rfl,Za ⟨(R1b.out.cell 0).trans rfl,c2⟩,B2⟩
theorem info_slU:∃ i,Tryz.prog.info? 23=some i∧i.zero=some (.slice none 0 0)∧i.size=1∧i.bytes=24:=info_parts (by kernel_rfl)
def ColP (w:World) (m:Nat) (L:List Sl) (e:Ending) (w':World):Prop:=∃ A c,e=.returned (.slice A m c)∧Hid (w'.ownsRow w.heap.size 23 1 (.slice A m c) m (L.map slv))∧Hid (Below w.heap.size w w')
set_option maxRecDepth 100000 in
theorem append_seq (Bs Bn:Nat) (A:Option Addr) (g o c m L:Nat) (hL:m*256=L) (hm:m≤100000) (hA:0<m→A=some ⟨g,o,none⟩) (hc:L≤c) (w:World) (hs:w.cell? ⟨Bs,0,none⟩=some (.slice A L c)) (hn2:w.cell? ⟨Bn,0,none⟩=some (.int .i64 256)):
    Calls Tryz.prog 82 #[.slice none 0 0,.func (.func 83) #[] #[.pointer (some ⟨Bs,0,none⟩),.pointer (some ⟨Bn,0,none⟩)]] w (ColP w m (pieces g o m)):=by
  have HB:=Za (And.intro (Ya w _ hs) (Ya w _ hn2));have HM:=Za hm;refine (callsIn_wide (n:=3)).1 ?_;refine callsIn_of_wp_marks Tryz.func82 rfl trivial ?_ rfl;simp only [Tryz.ntmps82,List.size_toArray,List.length_cons,List.length_nil,Nat.reduceAdd,Nat.reduceSub,Array.replicate_succ,Array.replicate_zero,List.push_toArray,List.append_toArray,Zt,List.cons_append]
  gi_wp2;have bS:=Boxed.new w 51 (.slice none 0 0);have hB0:Below w.heap.size w (w.alloc (.cells #[.slice none 0 0] 51)):=(Below.refl _ w).alloc (Zj _) _;have hsz:(w.alloc (.cells #[.slice none 0 0] 51)).heap.size=w.heap.size+1:=by simp
  obtain ⟨W0,hW0⟩:∃ W0,w.alloc (.cells #[.slice none 0 0] 51)=W0:=⟨_,rfl⟩;rw [hW0] at bS hB0 hsz ⊢;clear hW0;have HSZ:=Za hsz;refine wpIn_rangeFunc_ownH rfl (by omega) (gf:=83) (lb:=#[.pointer (some ⟨Bs,0,none⟩),.pointer (some ⟨Bn,0,none⟩)]) rfl trivial (enters_of Tryz.func83 (by kernel_rfl) rfl)
    (chunk_stops Fence.wide _ trivial rfl (by omega) Bs Bn w.heap.size A g o c m L hL hm hA hc W0 HB.out.1 HB.out.2 (by have:=HSZ.out;omega) ((hB0.cell (p:=⟨Bs,0,none⟩) HB.out.1).trans hs) ((hB0.cell (p:=⟨Bn,0,none⟩) HB.out.2).trans hn2)) belowK_t (belowK_b (by have:=HSZ.out;omega)) (Below.refl _ _) (fun _=>rfl)
    (fun pre W=>(∃ v,Boxed W w.heap.size 51 v∧W.ownsRow w.heap.size 23 1 v pre.length (pre.map slv)∧True)∧Below w.heap.size W0 W)
    (fun _ _ _=>False)
    (OwnFrom.and ((holdsRow_own w.heap.size w.heap.size 51 23 1 (fun pre:List Sl=>pre.length) (fun pre=>pre.map slv) (fun _ _=>True)).from _) (ownFrom_below (by have:=HSZ.out;omega) (by have:=HSZ.out;omega)))
    (fun cd=>ownFrom_pure _ _)
    ⟨⟨_,bS,Ye _ _ _ _,trivial⟩,Below.refl _ _⟩
    (fun x a' W=>a'={ tmps:=#[.slice none 0 0,.func (.func 83) #[] #[.pointer (some ⟨Bs,0,none⟩),.pointer (some ⟨Bn,0,none⟩)],.pointer (some ⟨w.heap.size,0,none⟩),undef,.slice none 0 0,slv x,.func (.func 83) #[] #[.pointer (some ⟨Bs,0,none⟩),.pointer (some ⟨Bn,0,none⟩)],slv x,undef,undef,undef,undef,undef],defers:=[] })
    (fun x a'=>ownFrom_pure _ _)
    ?assign ?body ?done ?stop
  case assign=>
    rintro l pre x W K ⟨hp,hB1⟩ hK
    dsimp only [encP]
    gi_wp2;exact hK _ _ (KeepsFrom.refl _ _) (Below.refl _ W) ⟨hp,hB1⟩ rfl
  case body=>
    rintro l pre x a' W hl ⟨r,hr⟩ ⟨⟨v,bv,hrow,_⟩,hB1⟩ rfl hlt;have hSZ0:=HSZ.out;have hSZ1:=hB1.size;have cv:=bv.cell;have fv:=bv.frozen;unfold slv;have HROW:=Za hrow;have HBV:=Za bv;have HB1:=Za hB1;have HLT:=Za hlt;obtain ⟨i0,hi,hz0,hz1,hz2⟩:=info_slU;clear hrow bv hB1 hlt hr
    gi_wp2_with (gi_at_builtin;refine wpListIn_append_own _ rfl _ _ 51 rfl w.heap.size 23 i0 (.slice none 0 0) 1 24 Tryz.underlying51 hi hz0 hz1 hz2 rfl (by decide) _ _ _ rfl (HROW.out.alloc _) ⟨W.heap.size,0,none⟩ 1 1 [.slice x.1 x.2.1 x.2.2] rfl rfl (cell_one_new _ _ _) (by simp [Value.oneCell']) (by have:=HLT.out;have:=HM.out;unfold maxLen;omega) (by have:=HLT.out;have:=HM.out;omega) (by have:=HB1.out.size;have:=HSZ.out;simp;omega) ?_;intro v' w3 hown' hg3 hnil3
                 obtain ⟨g',cap',rfl⟩:=ownsRow_succ hown';obtain ⟨a1,a2,a3,a4,a5⟩:=HBV.out.appended (by decide) HROW.out (by have:=HB1.out.size;have:=HSZ.out;omega) (Zj _) hown' hg3;have ca:=a1.cell;have fa:=a1.frozen;have A2:=Za a2;have A3:=Za a3;have A4:=Za a4;have A5:=Za a5;clear hown' hg3 hnil3 a1 a2 a3 a4 a5 cv fv)
    exact ⟨A4.out.from _,A5.out,⟨⟨_,A2.out,by rw [Zf,List.map_append];exact A3.out,trivial⟩,HB1.out.trans A5.out⟩⟩
  case done=>
    rintro D ys W hD rfl ⟨⟨v,bv,hrow,_⟩,hB1⟩ hK;have cv:=bv.cell;have HROW:=Za hrow;have HB1:=Za hB1;have HKD:=Za hK;have HD:=Za hD;clear hrow hB1 hK hD bv
    gi_wp2;refine ⟨by simp,.inl ⟨_,_,rfl,run_takeDeferred HKD.out,?_⟩⟩;have hr2:=ownsRow_putObj HROW.out (.deferred none) HKD.out rfl;have hb2:=(hB0.trans HB1.out).trans (belowK_b (w:=w) (Zj _) W D _ (.deferred none) (by have:=HD.out;have:=HSZ.out;omega) HKD.out rfl rfl);rw [pieces_len] at hr2;obtain ⟨A',c',rfl⟩:=own_sl hr2;exact ⟨_,results_tmp rfl _ _ _,A',c',rfl,Za hr2,Za hb2⟩
  case stop=>rintro D cd pre W hD _ h _;exact h.elim
theorem collect_any (Bs Bn:Nat) (A:Option Addr) (g o c m L:Nat) (hL:m*256=L) (hm:m≤100000) (hA:0<m→A=some ⟨g,o,none⟩) (hc:L≤c) (w:World) (hs:w.cell? ⟨Bs,0,none⟩=some (.slice A L c)) (hn2:w.cell? ⟨Bn,0,none⟩=some (.int .i64 256)):
    Calls Tryz.prog 40 #[.func (.func 83) #[] #[.pointer (some ⟨Bs,0,none⟩),.pointer (some ⟨Bn,0,none⟩)]] w (ColP w m (pieces g o m)):=by
  have H:=Za (append_seq Bs Bn A g o c m L hL hm hA hc w hs hn2);clear hL hm hA hc hs hn2;unfold ColP at H ⊢;go_enter Tryz.func40,Tryz.ntmps40;go_wp2_with (go_at_call 82;refine H.out.mono ?_;rintro e w2 ⟨A2,c2,rfl,h1,h2⟩);go_ret;exact ⟨_,_,rfl,h1,h2⟩
end Go.Proofs.YtijffkklhgnknaaGreatDoor
/- A cell of a block,stored. No conditions. -/
set_option maxRecDepth 20000
namespace Go.Proofs.YtijffkklhgnknaaGreatDoor
open Go.RowKit
theorem step_cell_int {P:Program} {ops:Array Oper} {rest:List Oper} {o:Oper} {a:Act} {w:World} {Q:Exit→Act→World→Prop} (hgd:o.guard=none) (ty:TypeId) (x y:Operand) (ho:o.op=.store ty x y) (g k:Nat) (hx:a.eval x=.pointer (some ⟨g,k,none⟩)) (kd:IntKind) (z:Int) (hy:a.eval y=.int kd z) (hu:P.underlying ty=some (.int kd)) (hsz:(P.info? ty).map (·.size)=some 1) (t:TypeId) (cs:List Value) (hr:Row w g t cs) (hk:k<cs.length)
    (h:∀ w',Row w' g t (cs.set k (.int kd z))→w.grownBy w' (some g)→wpList P ops Q rest (a.put o.dst undef) w'):wpList P ops Q (o::rest) a w:=by
  refine wpList_plain hgd fun K hK=>?_;have hc:w.cell? ⟨g,k,none⟩=some cs[k]:=by rw [hr.cell,Zh hk]
  have hf:=hr.free k;unfold Oper.wp execOp;simp only [ho,hx,hy];have hz:(sizeOf ty).run P w=.ok 1 w:=size_ofD hsz w;simp [go_sem,hc,hf,hz];exact hK _ _ (h _ (hr.put k _) (grown_set w ⟨g,k,none⟩ _))
theorem step_cell_str {P:Program} {ops:Array Oper} {rest:List Oper} {o:Oper} {a:Act} {w:World} {Q:Exit→Act→World→Prop} (hgd:o.guard=none) (ty:TypeId) (x y:Operand) (ho:o.op=.store ty x y) (g k:Nat) (hx:a.eval x=.pointer (some ⟨g,k,none⟩)) (s:ByteArray) (hy:a.eval y=.string s) (hu:P.underlying ty=some .string) (hsz:(P.info? ty).map (·.size)=some 1) (t:TypeId) (cs:List Value) (hr:Row w g t cs) (hk:k<cs.length)
    (h:∀ w',Row w' g t (cs.set k (.string s))→w.grownBy w' (some g)→wpList P ops Q rest (a.put o.dst undef) w'):wpList P ops Q (o::rest) a w:=by
  refine wpList_plain hgd fun K hK=>?_;have hc:w.cell? ⟨g,k,none⟩=some cs[k]:=by rw [hr.cell,Zh hk]
  have hf:=hr.free k;unfold Oper.wp execOp;simp only [ho,hx,hy];have hz:(sizeOf ty).run P w=.ok 1 w:=size_ofD hsz w;simp [go_sem,hc,hf,hz];exact hK _ _ (h _ (hr.put k _) (grown_set w ⟨g,k,none⟩ _))
end Go.Proofs.YtijffkklhgnknaaGreatDoor
/- Plain facts of reading leaves:what is read of a list's leaves is the list. No conditions. -/
namespace Go.Proofs.YtijffkklhgnknaaGreatDoor
open Go.RowKit
def rdE (s:List UInt8 × Bool):Ent × (List UInt8 × Bool):=
  let a:=nnx 1 s.1 s.2
  let b:=nnx 1 a.2.1 a.2.2
  let c:=nnx 8 b.2.1 b.2.2
  let d:=nnx 4 c.2.1 c.2.2
  let t:=tnx d.2.1 d.2.2
  (⟨⟨t.1.toArray⟩,(num a.1:Int),num c.1,(num b.1:Int),num d.1⟩,(t.2.1,t.2.2))
def rdS (s:List UInt8 × Bool):Nat→List UInt8 × Bool
  | 0=>s
  | k+1=>(rdE (rdS s k)).2
def rdL (s:List UInt8 × Bool) (k:Nat):List Ent:=(List.range k).map fun j=>(rdE (rdS s j)).1
theorem rdL_succ (s:List UInt8 × Bool) (k:Nat):rdL s (k+1)=rdL s k++[(rdE (rdS s k)).1]:=by simp [rdL,List.range_succ]
def readL (b:List UInt8):List Ent:=rdL ((nnx 1 b false).2.1,(nnx 1 b false).2.2) (num (nnx 1 b false).1)
def prs (Bs:List (List UInt8)):List Ent:=Bs.flatMap readL
theorem nnx_le (n:Int) (l:List UInt8) (bad:Bool):(nnx n l bad).2.1.length≤l.length:=by
  unfold nnx
  split
  · simp
  · exact (nxt_le n l bad).2
theorem tnx_le (l:List UInt8) (bad:Bool):(tnx l bad).1.length≤l.length∧(tnx l bad).2.1.length≤l.length:=by
  unfold tnx;have h1:=nxt_le 2 l bad;have h2:=nxt_le (num (nxt 2 l bad).1:Nat) (nxt 2 l bad).2.1 (nxt 2 l bad).2.2;omega
theorem rdE_le (s:List UInt8 × Bool):(rdE s).2.1.length≤s.1.length∧(rdE s).1.nm.size≤s.1.length:=by
  have h1:=nnx_le 1 s.1 s.2;unfold rdE
  dsimp only;generalize nnx 1 s.1 s.2=a at*;have h2:=nnx_le 1 a.2.1 a.2.2;generalize nnx 1 a.2.1 a.2.2=b at*;have h3:=nnx_le 8 b.2.1 b.2.2;generalize nnx 8 b.2.1 b.2.2=c at*;have h4:=nnx_le 4 c.2.1 c.2.2;generalize nnx 4 c.2.1 c.2.2=d at*;have h5:=tnx_le d.2.1 d.2.2;generalize tnx d.2.1 d.2.2=t at*;have e:(⟨t.1.toArray⟩:ByteArray).size=t.1.length:=by simp [ByteArray.size]
  rw [e];constructor <;> omega
theorem rdS_le (s:List UInt8 × Bool):∀ k,(rdS s k).1.length≤s.1.length
  | 0=>Zj _
  | k+1=>Nat.le_trans (rdE_le (rdS s k)).1 (rdS_le s k)
theorem num_nnx_lt (n:Int) (l:List UInt8) (bad:Bool) (k:Nat) (hk:n=(k:Int)):num (nnx n l bad).1<256 ^ k:=by
  have h1:(nnx n l bad).1.length≤k:=by
    unfold nnx
    split
    · simp
    · have:=nxt_one n l bad (by omega);omega
  exact Yc (num_lt _) (Nat.pow_le_pow_right (by omega) h1)
theorem rdE_wide (s:List UInt8 × Bool):(rdE s).1.ser<18446744073709551616∧(rdE s).1.ck<4294967296:=⟨num_nnx_lt 8 _ _ 8 rfl,num_nnx_lt 4 _ _ 4 rfl⟩
theorem prs_ok {Bs:List (List UInt8)} {M:Nat} (h:∀ b ∈ Bs,b.length≤M):Wide (prs Bs)∧∀ e ∈ prs Bs,e.nm.size≤M:=by
  have h1:∀ e ∈ prs Bs,(e.ser<18446744073709551616∧e.ck<4294967296)∧e.nm.size≤M:=fun e he=>by
    obtain ⟨b,hb,he⟩:=List.mem_flatMap.1 he;obtain ⟨j,_,rfl⟩:=List.mem_map.1 he;refine ⟨rdE_wide _,Nat.le_trans (rdE_le _).2 (Nat.le_trans (rdS_le _ _) (Nat.le_trans (nnx_le 1 b false) (h b hb)))⟩
  exact ⟨fun e he=>(h1 e he).1,fun e he=>(h1 e he).2⟩
theorem nxt_app (n:Nat) (a r:List UInt8) (h:a.length=n):nxt (n:Int) (a++r) false=(a,r,false):=by
  unfold nxt;rw [if_neg (by simp;omega),Yf,List.take_left' h,List.drop_left' h]
theorem nnx_app (n:Nat) (a r:List UInt8) (h:a.length=n) (hw:wid (n:Int)≠0):nnx (n:Int) (a++r) false=(a,r,false):=by
  unfold nnx;rw [if_neg hw,nxt_app n a r h]
theorem rdE_enb (x:Ent) (i k s:Nat) (hn:Nice x i k s) (r:List UInt8):rdE (enb x++r,false)=(x,(r,false)):=by
  obtain ⟨hi,hk,hil,hkl,hser,hck,hnm,hsl⟩:=hn
  have e:enb x++r=leb i 1++(leb k 1++(leb x.ser 8++(leb x.ck 4++(leb s 2++(x.nm.data.toList++r))))):=by
    unfold enb;rw [hi,hk,hnm,Yf,Yf];simp only [Zi]
  have a1:=nnx_app 1 (leb i 1) (leb k 1++(leb x.ser 8++(leb x.ck 4++(leb s 2++(x.nm.data.toList++r))))) (leb_len _ _) (by decide);have a2:=nnx_app 1 (leb k 1) (leb x.ser 8++(leb x.ck 4++(leb s 2++(x.nm.data.toList++r)))) (leb_len _ _) (by decide);have a3:=nnx_app 8 (leb x.ser 8) (leb x.ck 4++(leb s 2++(x.nm.data.toList++r))) (leb_len _ _) (by decide);have a4:=nnx_app 4 (leb x.ck 4) (leb s 2++(x.nm.data.toList++r)) (leb_len _ _) (by decide);have a5:=nxt_app 2 (leb s 2) (x.nm.data.toList++r) (leb_len _ _);have hs:num (leb s 2)=s:=by rw [num_leb];exact Nat.mod_eq_of_lt (by omega)
  have a6:=nxt_app s x.nm.data.toList r hnm
  have t:tnx (leb s 2++(x.nm.data.toList++r)) false=(x.nm.data.toList,r,false):=by
    unfold tnx;rw [show (2:Int)=((2:Nat):Int) from rfl,a5]
    dsimp only;rw [hs,a6]
  rw [e];unfold rdE
  dsimp only;rw [show (1:Int)=((1:Nat):Int) from rfl,show (8:Int)=((8:Nat):Int) from rfl,show (4:Int)=((4:Nat):Int) from rfl];rw [a1]
  dsimp only;rw [a2]
  dsimp only;rw [a3]
  dsimp only;rw [a4]
  dsimp only;rw [t]
  dsimp only;rw [num_leb,num_leb,num_leb,num_leb,Nat.mod_eq_of_lt (by omega:i<256 ^ 1),Nat.mod_eq_of_lt (by omega:k<256 ^ 1),Nat.mod_eq_of_lt (by omega:x.ser<256 ^ 8),Nat.mod_eq_of_lt (by omega:x.ck<256 ^ 4), ← hi, ← hk]
theorem packL_cons (x:Ent) (X:List Ent):packL (x::X)=enb x++packL X:=rfl
theorem rdS_pack {X:List Ent} (h:NiceL X) (r:List UInt8):∀ k,k≤X.length→rdS (packL X++r,false) k=(packL (X.drop k)++r,false)
  | 0,_=>by simp [rdS]
  | k+1,hk=>by
    rw [rdS,rdS_pack h r k (by omega)];have hx:X[k] ∈ X:=List.getElem_mem (by omega);obtain ⟨i,q,s,hn,_⟩:=h _ hx;rw [← List.getElem_cons_drop (by omega:k<X.length),packL_cons,Zi,rdE_enb _ i q s hn]
theorem rdL_pack {X:List Ent} (h:NiceL X) (r:List UInt8):∀ k,k≤X.length→rdL (packL X++r,false) k=X.take k
  | 0,_=>by simp [rdL]
  | k+1,hk=>by
    rw [rdL_succ,rdL_pack h r k (by omega),rdS_pack h r k (by omega)];have hx:X[k] ∈ X:=List.getElem_mem (by omega);obtain ⟨i,q,s,hn,_⟩:=h _ hx;rw [← List.getElem_cons_drop (by omega:k<X.length),packL_cons,Zi,rdE_enb _ i q s hn,List.take_succ_eq_append_getElem (by omega)]
theorem fitL_255 {R:List Ent}:fitL 255 R<256:=by
  have h1:=fitL_pack R 255
  have h2:∀ L:List Ent,L.length≤(packL L).length:=fun L=>by
    induction L with
    | nil=>exact Zj _
    | cons y L ih=>rw [packL_cons,Zf,List.length_cons];have:=enb_len y;omega
  have h3:=h2 (R.take (fitL 255 R));rw [Zu] at h3;have:=fitL_le R 255;omega
theorem NiceL.take {X:List Ent} (h:NiceL X) (k:Nat):NiceL (X.take k):=fun e he=>h e (List.mem_of_mem_take he)
theorem NiceL.drop {X:List Ent} (h:NiceL X) (k:Nat):NiceL (X.drop k):=fun e he=>h e (List.mem_of_mem_drop he)
theorem read_leaf {R:List Ent} (h:NiceL R):readL (leafB R)=R.take (fitL 255 R):=by
  have h1:=nnx_app 1 [UInt8.ofNat (fitL 255 R)] (packL (R.take (fitL 255 R))++List.replicate (255 - (packL (R.take (fitL 255 R))).length) 0) rfl (by decide);have h2:nnx 1 (leafB R) false=([UInt8.ofNat (fitL 255 R)],packL (R.take (fitL 255 R))++List.replicate (255 - (packL (R.take (fitL 255 R))).length) 0,false):=h1
  have hn:num [UInt8.ofNat (fitL 255 R)]=fitL 255 R:=by
    have:=fitL_255 (R:=R);simp [num];omega
  unfold readL;rw [h2]
  dsimp only;rw [hn,rdL_pack (h.take _) _ _ (by rw [Zu];have:=fitL_le R 255;omega),List.take_take,Nat.min_self]
theorem prs_leavesN:∀ (f:Nat) {X:List Ent},NiceL X→X.length≤f→prs (leavesN f X)=X
  | 0,X,_,h=>by
    have:X=[]:=Zk (by omega);subst this;rfl
  | f+1,X,hn,h=>by
    unfold leavesN;by_cases h0:X=[]
    · rw [if_pos h0,h0];rfl
    · rw [if_neg h0];have hp:=fitL_pos h0 (niceL_enb hn);show readL (leafB X)++prs (leavesN f (X.drop (fitL 255 X)))=X;rw [read_leaf hn,prs_leavesN f (hn.drop _) (by rw [Zs];omega),List.take_append_drop]
theorem prs_leaves {X:List Ent} (h:NiceL X):prs (leaves X)=X:=prs_leavesN _ h (Zj _)
theorem leavesN_len:∀ (f:Nat) {X:List Ent},NiceL X→(leavesN f X).length≤X.length
  | 0,X,_=>by simp [leavesN]
  | f+1,X,hn=>by
    unfold leavesN;by_cases h0:X=[]
    · rw [if_pos h0];simp
    · rw [if_neg h0];have hp:=fitL_pos h0 (niceL_enb hn);have hl:=fitL_le X 255;have h1:=leavesN_len f (hn.drop (fitL 255 X));rw [Zs] at h1;rw [List.length_cons];omega
theorem leavesN_get:∀ (f:Nat) {X:List Ent} {i:Nat} {b:List UInt8},NiceL X→X.length≤f→(leavesN f X)[i]?=some b→∃ R,b=leafB R∧NiceL R∧R=X.drop (prs ((leavesN f X).take i)).length
  | 0,X,i,b,_,_,hb=>by simp [leavesN] at hb
  | f + 1,X,i,b,hn,hf,hb=>by
    by_cases h0:X=[]
    · unfold leavesN at hb;rw [if_pos h0] at hb;simp at hb
    · have hl:leavesN (f+1) X=leafB X::leavesN f (X.drop (fitL 255 X)):=by rw [leavesN,if_neg h0]
      have hp:=fitL_pos h0 (niceL_enb hn);have hle:=fitL_le X 255;rw [hl] at hb ⊢
      cases i with
      | zero=>
        simp at hb;exact ⟨X,hb.symm,hn,by simp [prs]⟩
      | succ i=>
        obtain ⟨R,h1,h2,h3⟩:=leavesN_get f (hn.drop (fitL 255 X)) (by rw [Zs];omega) (by simpa using hb);refine ⟨R,h1,h2,?_⟩;rw [h3,List.drop_drop];congr 1;simp only [List.take_succ_cons,prs,List.flatMap_cons,Zf];rw [read_leaf hn,Zu];omega
def OkB (Bs:List (List UInt8)):Prop:=MayL (prs Bs)∧leaves (prs Bs)=Bs
open Classical in
noncomputable def prL (Bs:List (List UInt8)):List Ent:=if OkB Bs then prs Bs else []
open Classical in
noncomputable def prE (Bs:List (List UInt8)):Int:=if OkB Bs then 0 else 5
theorem okb_of {Bs:List (List UInt8)} {X:List Ent} (h:MayL X) (hw:Wide X) (he:leaves X=Bs):OkB Bs∧prs Bs=X:=by
  have h1:prs Bs=X:=by rw [← he];exact prs_leaves (niceL_may h hw)
  exact ⟨⟨by rw [h1];exact h,by rw [h1];exact he⟩,h1⟩
theorem okb_len {Bs:List (List UInt8)} {M:Nat} (h:OkB Bs) (hM:∀ b ∈ Bs,b.length≤M):Bs.length≤32:=by
  have h1:=leavesN_len (prs Bs).length (niceL_may h.1 (prs_ok hM).1);have h2:=h.1.1;have h3:=congrArg List.length h.2;unfold leaves at h3;omega
end Go.Proofs.YtijffkklhgnknaaGreatDoor
/- Package dir:what a block tells. Conditions:no more than a million bytes. -/
namespace Go.Proofs.YtijffkklhgnknaaGreatDoor
open Go.RowKit
structure RdW (w0 w:World) (g g5:Nat) (l:List UInt8) (bad:Bool) (cs:List Value) (A:Option Addr) (m c:Nat) (L:List Ent):Prop where
  cur:CurD w g l bad
  row:Row w g5 61 cs
  own:w.ownsRow w0.heap.size 61 5 (.slice A m c) m (L.flatMap ecs)
  ne:∀ k,(Value.slice A m c).ownBlock=some k→k≠g5
  bel:Below w0.heap.size w0 w
  lo:w0.heap.size≤g∧w0.heap.size≤g5∧g≠g5
theorem cur_row {w:World} {g:Nat} {l:List UInt8} {bad:Bool} (h:CurD w g l bad):∃ cs,Row w g 169 cs:=by
  obtain ⟨A,c,hg,_⟩:=h;exact ⟨[.slice A l.length c,.bool bad],hg⟩
theorem RdW.num {w0 w w':World} {g g5:Nat} {l l':List UInt8} {bad bad':Bool} {cs:List Value} {A:Option Addr} {m c:Nat} {L:List Ent} (h:RdW w0 w g g5 l bad cs A m c L) (hc:CurD w' g l' bad') (hg:w.grownBy w' (some g)):RdW w0 w' g g5 l' bad' cs A m c L:=by
  obtain ⟨cc,hcc⟩:=cur_row h.cur;exact ⟨hc,h.row.grown hg (fun e=>by injection e with e;exact h.lo.2.2 e.symm),h.own.kept hg (.inr (row_parted hcc h.own (by decide))),h.ne,h.bel.grown hg h.bel.size (fun k hk=>by injection hk with hk;subst hk;exact h.lo.1),h.lo⟩
theorem RdW.put {w0 w w':World} {g g5:Nat} {l:List UInt8} {bad:Bool} {cs cs':List Value} {A:Option Addr} {m c:Nat} {L:List Ent} (h:RdW w0 w g g5 l bad cs A m c L) (hr:Row w' g5 61 cs') (hg:w.grownBy w' (some g5)):RdW w0 w' g g5 l bad cs' A m c L:=by
  refine ⟨h.cur.grown hg (fun e=>by injection e with e;exact h.lo.2.2 e) (fun k hk cs2 he=>?_),hr,h.own.kept hg ?_,h.ne,h.bel.grown hg h.bel.size (fun k hk=>by injection hk with hk;subst hk;exact h.lo.2.1),h.lo⟩
  · injection hk with hk
    subst hk;have h1:=h.row.heap;rw [he] at h1;injection h1 with h1
    injection h1 with _ ht
    exact absurd ht (by decide)
  · cases hx:(Value.slice A m c).ownBlock with
    | none=>exact .inl rfl
    | some k=>exact .inr (fun e=>by injection e with e;exact h.ne k hx e)
theorem info_i64:(Tryz.prog.info? 3).map (·.size)=some 1:=by kernel_rfl
theorem info_u64:(Tryz.prog.info? 34).map (·.size)=some 1:=by kernel_rfl
theorem info_u32:(Tryz.prog.info? 40).map (·.size)=some 1:=by kernel_rfl
theorem info_str:(Tryz.prog.info? 9).map (·.size)=some 1:=by kernel_rfl
theorem fill_ent (nm:ByteArray) (i k:Int) (s c:Nat):(((((ecs ent0).set 1 (.int .i64 i)).set 3 (.int .i64 k)).set 2 (.int .u64 (s:Int))).set 4 (.int .u32 (c:Int))).set 0 (.string nm)=ecs ⟨nm,i,s,k,c⟩:=rfl
theorem read_anyD (A:Option Addr) (c:Nat) (b:List UInt8) (w:World) (hA:Hol w A b) (hb:b.length≤1000000):Calls Tryz.prog 80 #[.slice A b.length c] w fun e w'=>∃ A' c',e=.returned (.slice A' (readL b).length c')∧w'.ownsRow w.heap.size 61 5 (.slice A' (readL b).length c') (readL b).length ((readL b).flatMap ecs)∧(readL b).length<256∧Below w.heap.size w w':=by
  have HNEW:=Za (new_any A c b w hA (by omega));obtain ⟨bl,hbl⟩:∃ n,b.length=n:=⟨_,rfl⟩;obtain ⟨s0,hs0⟩:∃ s:List UInt8 × Bool,((nnx 1 b false).2.1,(nnx 1 b false).2.2)=s:=⟨_,rfl⟩;obtain ⟨N,hN⟩:∃ N,num (nnx 1 b false).1=N:=⟨_,rfl⟩;have HN:=Za (p:=N<256) (by rw [← hN];exact num_nnx_lt 1 b false 1 rfl);have HL0:=Za (p:=s0.1.length≤1000000) (by rw [← hs0];exact Nat.le_trans (nnx_le 1 b false) hb);have hr:readL b=rdL s0 N:=by unfold readL;rw [hs0,hN]
  have HLEN:=Za (p:=(rdL s0 N).length=N) (by simp [rdL])
  have HFST:=Za (p:=∀ (g:Nat) w,CurD w g b false→Calls Tryz.prog 74 #[.pointer (some ⟨g,0,none⟩),.int .i64 1] w fun e w'=>e=.returned (.int .u64 (N:Int))∧CurD w' g s0.1 s0.2∧w.grownBy w' (some g)) (fun g w hc=>by
    refine (num_anyD g b false 1 w hc (by omega)).mono ?_;rintro e w' ⟨rfl,h1,h2⟩;rw [hN];exact ⟨rfl,by rw [← hs0];exact h1,h2⟩)
  rw [hr,HLEN.out];rw [hbl] at HNEW ⊢;clear hA hb hs0 hN hr hbl;go_enter Tryz.func80,Tryz.ntmps80
  go_wp2_with (first
    | (go_at_call 73;refine HNEW.out.mono ?_;rintro e w1 ⟨g,rfl,hgl,hcur,hb⟩;have HC1:=Za hcur
       have HG1:=Za hgl;have HB1:=Za hb;clear hcur hgl hb HNEW)
    | (go_at_call 74;refine (HFST.out g _ HC1.out).mono ?_;rintro e w2 ⟨rfl,hc,hg⟩;have HC2:=Za hc
       have HB2:=Za (p:=Below w.heap.size w w2) (HB1.out.grown hg HB1.out.size (fun k hk=>by injection hk with hk;subst hk;exact HG1.out));clear hc hg HFST))
  go_loopw [4,10] (fun x y wr=>∃ (k c':Nat) (A':Option Addr),y=.int .u64 (k:Int)∧x=.slice A' k c'∧Hid (k≤N)∧Hid (wr.ownsRow w.heap.size 61 5 (.slice A' k c') k ((rdL s0 k).flatMap ecs))∧Hid (CurD wr g (rdS s0 k).1 (rdS s0 k).2)∧Hid (Below w.heap.size w wr)) (fun _ y _=>N - (intOf y).toNat)
  case atStart=>exact ⟨0,0,none,rfl,rfl,Za (Nat.zero_le _),Za (Ye _ _ _ _),HC2,HB2⟩
  case round=>
    clear HC2 HB2 HC1 HB1;obtain ⟨k,c',A',rfl,rfl,HKL,HO,HC,HB⟩:=hrel
    rename World=>wr;by_cases hk:k<N
    · have hki:(k:Int)<(N:Int):=by omega
      have hkw:IntKind.u64.wrap ((k:Int)+1)=(k:Int)+1:=by have:=u64_nat (k+1) (by have:=HN.out;omega);simpa using this
      have HK:=Za hk;clear hk;have hlen:=Nat.le_trans (rdS_le s0 k) HL0.out;have hsu:=rdL_succ s0 k;have hss:rdS s0 (k+1)=(rdE (rdS s0 k)).2:=rfl;have hsz:=(rdE_le (rdS s0 k)).2;obtain ⟨s,hs⟩:∃ s,rdS s0 k=s:=⟨_,rfl⟩;rw [hs] at hlen hsu hss HC hsz;have hE:rdE s=rdE s:=rfl;have l1:=nnx_le 1 s.1 s.2;have m1:=num_nnx_lt 1 s.1 s.2 1 rfl;obtain ⟨a,ha⟩:∃ a,nnx 1 s.1 s.2=a:=⟨_,rfl⟩;have l2:=nnx_le 1 a.2.1 a.2.2;have m2:=num_nnx_lt 1 a.2.1 a.2.2 1 rfl;obtain ⟨d,hd⟩:∃ d,nnx 1 a.2.1 a.2.2=d:=⟨_,rfl⟩;have l3:=nnx_le 8 d.2.1 d.2.2;have m3:=num_nnx_lt 8 d.2.1 d.2.2 8 rfl;obtain ⟨f,hf⟩:∃ f,nnx 8 d.2.1 d.2.2=f:=⟨_,rfl⟩;have l4:=nnx_le 4 f.2.1 f.2.2;have m4:=num_nnx_lt 4 f.2.1 f.2.2 4 rfl;obtain ⟨h,hh⟩:∃ h,nnx 4 f.2.1 f.2.2=h:=⟨_,rfl⟩;obtain ⟨t,ht⟩:∃ t,tnx h.2.1 h.2.2=t:=⟨_,rfl⟩
      have hx:rdE s=(⟨⟨t.1.toArray⟩,(num a.1:Int),num f.1,(num d.1:Int),num h.1⟩,(t.2.1,t.2.2)):=by
        unfold rdE
        dsimp only;rw [ha];rw [hd];rw [hf];rw [hh];rw [ht]
      rw [hx] at hsu hss;rw [ha] at l1 m1;rw [hd] at l2 m2;rw [hf] at l3 m3;rw [hh] at l4 m4;have C1:=Za (p:=∀ w,CurD w g s.1 s.2→Calls Tryz.prog 74 #[.pointer (some ⟨g,0,none⟩),.int .i64 1] w (NumPostD w g a)) (fun w hc=>by have:=num_anyD g s.1 s.2 1 w hc (by omega);rwa [ha] at this);have C2:=Za (p:=∀ w,CurD w g a.2.1 a.2.2→Calls Tryz.prog 74 #[.pointer (some ⟨g,0,none⟩),.int .i64 1] w (NumPostD w g d)) (fun w hc=>by have:=num_anyD g a.2.1 a.2.2 1 w hc (by omega);rwa [hd] at this);have C3:=Za (p:=∀ w,CurD w g d.2.1 d.2.2→Calls Tryz.prog 74 #[.pointer (some ⟨g,0,none⟩),.int .i64 8] w (NumPostD w g f)) (fun w hc=>by have:=num_anyD g d.2.1 d.2.2 8 w hc (by omega);rwa [hf] at this);have C4:=Za (p:=∀ w,CurD w g f.2.1 f.2.2→Calls Tryz.prog 74 #[.pointer (some ⟨g,0,none⟩),.int .i64 4] w (NumPostD w g h)) (fun w hc=>by have:=num_anyD g f.2.1 f.2.2 4 w hc (by omega);rwa [hh] at this);have C5:=Za (p:=∀ w,CurD w g h.2.1 h.2.2→Calls Tryz.prog 117 #[.pointer (some ⟨g,0,none⟩)] w (TextPost w g t)) (fun w hc=>by have:=text_any g h.2.1 h.2.2 w hc (by omega);rwa [ht] at this);obtain ⟨n1,hn1⟩:∃ n,num a.1=n:=⟨_,rfl⟩;obtain ⟨n2,hn2⟩:∃ n,num d.1=n:=⟨_,rfl⟩;obtain ⟨n3,hn3⟩:∃ n,num f.1=n:=⟨_,rfl⟩;obtain ⟨n4,hn4⟩:∃ n,num h.1=n:=⟨_,rfl⟩;unfold NumPostD at C1 C2 C3 C4;unfold TextPost at C5;rw [hn1] at m1 C1;rw [hn2] at m2 C2;rw [hn3] at m3 C3;rw [hn4] at m4 C4;rw [hn1,hn2,hn3,hn4] at hsu;have u1:IntKind.i64.wrap (n1:Int)=(n1:Int):=by rw [Zg];omega
      have u2:IntKind.i64.wrap (n2:Int)=(n2:Int):=by rw [Zg];omega
      have u4:IntKind.u32.wrap (n4:Int)=(n4:Int):=by simp [IntKind.wrap,IntKind.bits,IntKind.signed];omega
      obtain ⟨x9,hx9⟩:∃ e:Ent,(⟨⟨t.1.toArray⟩,(n1:Int),n3,(n2:Int),n4⟩:Ent)=e:=⟨_,rfl⟩;rw [hx9] at hsu;have HX9:=Za hx9;have HSU:=Za hsu;have HSS:=Za hss;clear hx9 hlen hsu hss hsz hs hE l1 l2 l3 l4 m1 m2 m3 m4 ha hd hf hh ht hx hn1 hn2 hn3 hn4
      go_wp2_with (first
        | (refine step_alloc rfl 5 rfl 61 rfl (ecs ent0) zero_ent ?_;intro g5 w3 hr3 hg3 hb3 hs3;have HW0:=Za (p:=RdW w w3 g g5 s.1 s.2 (ecs ent0) A' k c' (rdL s0 k)) ⟨HC.out.below hb3,hr3,own_kept HO.out hb3,fun q hq=>by have h1:=(HO.out.lt q hq).2;have h2:=hg3.out;omega,below_nxt hb3 HB.out,HG1.out,by have h1:=hg3.out;have h2:=HB.out.size;omega,by have h1:=HC.out.lt;have h2:=hg3.out;omega⟩
           clear hr3 hg3 hb3 hs3)
        | (go_at_call 74;refine (C1.out _ HW0.out.cur).mono ?_;rintro e w4 ⟨rfl,hc,hg⟩;have HW1:=Za (HW0.out.num hc hg)
           clear hc hg C1 HW0)
        | (refine step_cell_int rfl 3 _ _ rfl g5 1 rfl .i64 (n1:Int) rfl Tryz.underlying3 info_i64 61 _ HW1.out.row (by simp [ecs_len]) ?_;intro w5 hr hg;have HW2:=Za (HW1.out.put hr hg)
           clear hr hg HW1)
        | (go_at_call 74;refine (C2.out _ HW2.out.cur).mono ?_;rintro e w6 ⟨rfl,hc,hg⟩;have HW3:=Za (HW2.out.num hc hg)
           clear hc hg C2 HW2)
        | (refine step_cell_int rfl 3 _ _ rfl g5 3 rfl .i64 (n2:Int) rfl Tryz.underlying3 info_i64 61 _ HW3.out.row (by simp [ecs_len]) ?_;intro w7 hr hg;have HW4:=Za (HW3.out.put hr hg)
           clear hr hg HW3)
        | (go_at_call 74;refine (C3.out _ HW4.out.cur).mono ?_;rintro e w8 ⟨rfl,hc,hg⟩;have HW5:=Za (HW4.out.num hc hg)
           clear hc hg C3 HW4)
        | (refine step_cell_int rfl 34 _ _ rfl g5 2 rfl .u64 (n3:Int) rfl Tryz.underlying34 info_u64 61 _ HW5.out.row (by simp [ecs_len]) ?_;intro w9 hr hg;have HW6:=Za (HW5.out.put hr hg)
           clear hr hg HW5)
        | (go_at_call 74;refine (C4.out _ HW6.out.cur).mono ?_;rintro e w10 ⟨rfl,hc,hg⟩;have HW7:=Za (HW6.out.num hc hg)
           clear hc hg C4 HW6)
        | (refine step_cell_int rfl 40 _ _ rfl g5 4 rfl .u32 (n4:Int) rfl Tryz.underlying40 info_u32 61 _ HW7.out.row (by simp [ecs_len]) ?_;intro w11 hr hg;have HW8:=Za (HW7.out.put hr hg)
           clear hr hg HW7)
        | (go_at_call 117;refine (C5.out _ HW8.out.cur).mono ?_;rintro e w12 ⟨rfl,hc,hg⟩;have HW9:=Za (HW8.out.num hc hg)
           clear hc hg C5 HW8)
        | (refine step_cell_str rfl 9 _ _ rfl g5 0 rfl ⟨t.1.toArray⟩ rfl Tryz.underlying9 info_str 61 _ HW9.out.row (by simp [ecs_len]) ?_;intro w13 hr hg;rw [fill_ent,HX9.out] at hr
           have HW10:=Za (HW9.out.put hr hg);clear hr hg HW9)
        | (refine step_load rfl 33 rfl 61 (.tmp 5) rfl g5 rfl (ecs x9) _ HW10.out.row.all Yi rfl (info_ent x9) ?_)
        | (refine step_bs1D rfl 46 61 _ rfl Tryz.underlying46 5 (info_ent x9) (by decide) _ zero_ent (ecs x9) rfl rfl ?_;intro g8 w14 hr8 hg8 hb8;have HR8:=Za hr8
           have HO8:=Za (own_kept HW10.out.own hb8);have HC8:=Za (HW10.out.cur.below hb8);have HB8:=Za (below_nxt hb8 HW10.out.bel);clear hr8 hg8 hb8)
        | (at_builtin
           refine wp_join rfl _ _ rfl rec_ent w.heap.size (.slice A' k c') k ((rdL s0 k).flatMap ecs) rfl HO8.out (some ⟨g8,0,none⟩) 1 1 (ecs x9) rfl rfl (.inr ⟨_,rfl,fun j u hu=>by rw [Addr.add_lit];exact HR8.out.all j u hu⟩) (ecs_one x9) (by have:=HN.out;have:=HK.out;omega) HB8.out.size ?_;intro v1 w15 ho1 hg1 hat1;have HO9:=Za ho1;have HC9:=Za (HC8.out.grown hg1 (fun he=>by obtain ⟨cc,hcc⟩:=cur_row HC8.out;exact row_parted hcc HO8.out (by decide) he.symm) (fun q hq cs2 he=>by have h1:Row w14 q 5 cs2.toList:=(by unfold Row;simpa using he);exact row_parted h1 HO8.out (by decide) hq));obtain ⟨A9,c9,rfl⟩:=own_sl ho1;have HB9:=Za (HB8.out.grown hg1 HB8.out.size (fun z hz=>(HO8.out.lt z hz).1));clear ho1 hg1 hat1))
      go_roundw
      case rel=>exact ⟨k+1,c9,A9,by go_num,rfl,Za HK.out,Za (by rw [HSU.out,flat_snoc];exact HO9.out),Za (by rw [HSS.out];exact HC9.out),HB9⟩
      case measure=>have:=HK.out;simp [intOf];omega
    · have hke:k=N:=by have:=HKL.out;omega
      have hki:¬ (k:Int)<(N:Int):=by omega
      subst hke;clear hk;go_wp2;go_ret;exact ⟨A',c',rfl,HO.out,HN.out,HB.out⟩
/- Package dir:Parse. Conditions:no more than 100000 blocks of no more than 2000 bytes,the library's tables lie there. -/
def ParP (w:World) (L:List Ent) (er:Int) (e:Ending) (w':World):Prop:=
  ∃ A c,e=.returned (.tuple #[.slice A L.length c,.int .i64 er])∧w'.ownsRow w.heap.size 61 5 (.slice A L.length c) L.length (L.flatMap ecs)∧Below w.heap.size w w'
theorem prs_take {Bs:List (List UInt8)} {k:Nat} {b:List UInt8} (h:Bs[k]?=some b):prs (Bs.take (k+1))=prs (Bs.take k)++readL b:=by
  unfold prs;rw [List.take_add_one,h];simp
theorem prs_len:∀ (Bs:List (List UInt8)),(prs Bs).length≤256*Bs.length
  | []=>by simp [prs]
  | b ::Bs=>by
    have h1:=prs_len Bs
    have h2:(readL b).length<256:=by
      unfold readL rdL;rw [List.length_map,List.length_range];exact num_nnx_lt 1 b false 1 rfl
    simp only [prs,List.flatMap_cons,Zf,List.length_cons] at h1 ⊢;omega
theorem prL_no {Bs:List (List UInt8)} (h:¬ OkB Bs):prL Bs=[]∧prE Bs=5:=⟨by unfold prL;rw [if_neg h],by unfold prE;rw [if_neg h]⟩
theorem prL_yes {Bs:List (List UInt8)} (h:OkB Bs):prL Bs=prs Bs∧prE Bs=0:=⟨by unfold prL;rw [if_pos h],by unfold prE;rw [if_pos h]⟩
theorem parse_any (A :Option Addr) (n c:Nat) (P:List BV) (hmax:n≤100000) (hn:P.length=n) (w:World) (hA:Lies sc 1 w A P) (hP:∀ b ∈ P,Hol w b.A b.l∧b.l.length≤2000) (hT:Tabs w):
    Calls Tryz.prog 39 #[.slice A n c] w (ParP w (prL (P.map (·.l))) (prE (P.map (·.l)))):=by
  obtain ⟨Bs,hBs⟩:∃ Bs,P.map (·.l)=Bs:=⟨_,rfl⟩
  have hM:∀ b ∈ Bs,b.length≤2000:=fun b hb=>by
    rw [← hBs] at hb;obtain ⟨x,hx,rfl⟩:=List.mem_map.1 hb;exact (hP x hx).2
  have hBl:Bs.length=n:=by rw [← hBs,List.length_map,hn]
  rw [hBs];have HL:=Za hA;have HP:=Za hP;have HT:=Za hT;have HN:=Za (And.intro hmax hn);have HBL:=Za hBl;have HBS:=Za hBs;have HM:=Za hM;by_cases hbig:32<n
  · have hno:=prL_no (fun h=>by have:=okb_len h hM;omega:¬ OkB Bs);rw [hno.1,hno.2];have hbi:(32:Int)<(n:Int):=by omega
    clear hbig hA hP hT hmax hn hBl hBs hM hno;go_enter Tryz.func39,Tryz.ntmps39;go_wp2;go_ret2;exact ⟨none,0,rfl,Ye _ _ _ _,Below.refl _ _⟩
  have hbi:¬ (32:Int)<(n:Int):=by omega
  have HN32:=Za (p:=n≤32) (by omega);clear hbig hA hP hT hmax hn hBl hBs hM;go_enter Tryz.func39,Tryz.ntmps39;go_wp2;go_loopw [4,14] (fun x y wr=>∃ (k m c':Nat) (A':Option Addr),y=.int .i64 (k:Int)∧x=.slice A' m c'∧Hid (k≤n)∧Hid ((prs (Bs.take k)).length=m)∧Hid (wr.ownsRow w.heap.size 61 5 (.slice A' m c') m ((prs (Bs.take k)).flatMap ecs))∧Hid (Below w.heap.size w wr)) (fun _ y _=>n - (intOf y).toNat)
  case atStart=>exact ⟨0,0,0,none,rfl,rfl,Za (Nat.zero_le _),Za (by simp [prs]),Za (Ye _ _ _ _),Za (Below.refl _ _)⟩
  case round =>
    obtain ⟨k,m,c',A',rfl,rfl,HKL,HML,HO,HB⟩:=hrel
    rename World=>wr;by_cases hk:k<n
    · have hki:(k:Int)<(n:Int):=by omega
      have hkw:IntKind.i64.wrap ((k:Int)+1)=(k:Int)+1:=by rw [Zg];have:=HN.out;omega
      obtain ⟨x,hx⟩:∃ x,P[k]?=some x:=⟨_,Zh (by have:=HN.out;omega)⟩;obtain ⟨g0,o0,rfl,hc⟩:=(HL.out.below HB.out).at_ (Zn.1 hx).1
      rw [(Zn.1 hx).2] at hc;have cx:wr.cell? ⟨g0,o0+k,none⟩=some (.slice x.A x.l.length x.c):=by have h9:=hc 0 _ rfl;simpa [bvv] using h9
      have hxm:=HP.out x (Zx hx);have HRD:=Za (read_anyD x.A x.c x.l wr (hxm.1.below HB.out) (by omega));have HBK:=Za (p:=Bs[k]?=some x.l) (by rw [← HBS.out,List.getElem?_map,hx];rfl);have HK:=Za hk;have HLM:=Za (p:=m≤8192) (by rw [← HML.out];have h1:=prs_len (Bs.take k);rw [Zu] at h1;have:=HN32.out;omega);clear hc hx hk hxm;obtain ⟨X1,hX1⟩:∃ X,readL x.l=X:=⟨_,rfl⟩;obtain ⟨q1,hq1⟩:∃ q,X1.length=q:=⟨_,rfl⟩;rw [hX1,hq1] at HRD;have HX1:=Za (And.intro hX1 hq1);clear hX1 hq1
      go_wp2_with (first
        | (go_at_call 80;refine HRD.out.mono ?_;rintro e w2 ⟨A2,c2,rfl,ho,hq,hb⟩;have HO2:=Za ho
           have HO1:=Za (own_kept HO.out hb);have HQ:=Za hq;have HB2:=Za (below_nxt hb HB.out);clear ho hq hb)
        | (at_builtin
           refine wp_join rfl _ _ rfl rec_ent w.heap.size (.slice A' m c') m ((prs (Bs.take k)).flatMap ecs) rfl HO1.out A2 q1 c2 (X1.flatMap ecs) rfl (by rw [flat_len ecs_len,HX1.out.2]) (own_src HO2.out) (flat_one ecs_one _) (by have:=HLM.out;have:=HQ.out;omega) HB2.out.size ?_;intro v1 w3 ho1 hg1 hat1;have HO3:=Za ho1;obtain ⟨A3,c3,rfl⟩:=own_sl ho1;have HB3:=Za (HB2.out.grown hg1 HB2.out.size (fun z hz=>(HO1.out.lt z hz).1));clear ho1 hg1 hat1))
      go_roundw
      case rel=>exact ⟨k+1,m+q1,c3,A3,by go_num,rfl,Za HK.out,Za (by rw [prs_take HBK.out,Zf,HML.out,HX1.out.1,HX1.out.2]),Za (by rw [prs_take HBK.out,HX1.out.1,List.flatMap_append];exact HO3.out),HB3⟩
      case measure=>have:=HK.out;simp [intOf];omega
    · have hke : k = n:=by have:=HKL.out;omega
      have hki:¬ (k:Int)<(n:Int):=by omega
      have hall:Bs.take k=Bs:=Zz (by rw [HBL.out];omega);rw [hall] at HML HO;have hok:=prs_ok HM.out;have HLV:=Za (leaves_any A' m c' (prs Bs) (by rw [← HML.out];have h1:=prs_len Bs;have:=HBL.out;have:=HN32.out;omega) wr (Lies.own (by decide) ecs_len HO.out) HML.out (own_cap HO.out) (fun e he=>by have:=hok.2 e he;omega) hok.1 (tabs_below HT.out HB.out))
      have HEQ:=Za (p:=∀ (w1:World) (A2:Option Addr) (m2 c2:Nat) (P2:List BV),Below w.heap.size w w1→OwnBs wr.heap.size w1 A2 m2 c2 P2→m2≤32→Calls Tryz.prog 81 #[.slice A2 m2 c2,.slice A n c,.func (.func 75) #[] #[]] w1 fun e w'=>e=.returned (.bool (decide (P2.map (·.l)=Bs)))∧w'=w1) (fun w1 A2 m2 c2 P2 hb ho hm=>by
        have h1:=eqfunc_any A2 A m2 n c2 c P2 P (by omega) ho.2.1 HN.out.2 w1 (Lies.own (by decide) sc_len ho.1) (HL.out.below hb) (fun b hb2=>(ho.2.2 b hb2).hol) (fun b hb2=>(HP.out b hb2).1.below hb);rwa [HBS.out] at h1)
      clear hk hall hok;by_cases hmay:MayL (prs Bs)
      · have e1 :lvL (prs Bs)=leaves (prs Bs):=by unfold lvL;rw [if_pos hmay]
        have e2:lvE (prs Bs)=0:=by unfold lvE;rw [if_pos hmay]
        rw [e1,e2] at HLV;by_cases hok:OkB Bs
        · have HY:=Za (prL_yes hok);have HOK:=Za hok;clear e1 e2 hmay hok
          go_wp2_with (first
            | (go_at_call 24;refine HLV.out.mono ?_;rintro e w4 ⟨A4,m4,c4,P4,rfl,ho,hl,hm,hb⟩;have HB4:=Za (below_nxt hb HB.out)
               have HO4:=Za (own_kept HO.out hb);have HEQ4:=Za (HEQ.out w4 A4 m4 c4 P4 HB4.out ho hm);rw [decide_eq_true (by rw [hl];exact HOK.out.2)] at HEQ4;clear ho hl hm hb)
            | (go_at_call 81;refine HEQ4.out.mono ?_;rintro e w5 ⟨rfl,rfl⟩))
          go_ret2;refine ⟨A',c',?_,?_,HB4.out⟩
          · rw [HY.out.1,HY.out.2,HML.out];rfl
          · rw [HY.out.1,HML.out];exact HO4.out
        · have HY:=Za (prL_no hok);have HOK:=Za (p:=¬ leaves (prs Bs)=Bs) (fun h=>hok ⟨hmay,h⟩);clear e1 e2 hmay hok
          go_wp2_with (first
            | (go_at_call 24;refine HLV.out.mono ?_;rintro e w4 ⟨A4,m4,c4,P4,rfl,ho,hl,hm,hb⟩;have HB4:=Za (below_nxt hb HB.out)
               have HEQ4:=Za (HEQ.out w4 A4 m4 c4 P4 HB4.out ho hm);rw [decide_eq_false (by rw [hl];exact HOK.out)] at HEQ4;clear ho hl hm hb)
            | (go_at_call 81;refine HEQ4.out.mono ?_;rintro e w5 ⟨rfl,rfl⟩))
          go_ret2;exact ⟨none,0,by rw [HY.out.1,HY.out.2];rfl,by rw [HY.out.1];exact Ye _ _ _ _,HB4.out⟩
      · have e2 : lvE (prs Bs)=201:=by unfold lvE;rw [if_neg hmay]
        rw [e2] at HLV;have HY:=Za (prL_no (fun h=>hmay h.1:¬ OkB Bs));clear e2 hmay
        go_wp2_with (go_at_call 24;refine HLV.out.mono ?_;rintro e w4 ⟨A4,m4,c4,P4,rfl,ho,hl,hm,hb⟩;have HB4:=Za (below_nxt hb HB.out)
                     clear ho hl hm hb)
        go_ret2;exact ⟨none,0,by rw [HY.out.1,HY.out.2];rfl,by rw [HY.out.1];exact Ye _ _ _ _,HB4.out⟩
/- dir.List of a directory's file on a desk. Conditions:those named. -/
def cutB (l:List UInt8) (m:Nat):List (List UInt8):=(List.range m).map fun k=>(l.drop (k*256)).take 256
def pcsP (g o:Nat) (l:List UInt8) (m:Nat):List BV:=(List.range m).map fun k=>⟨some ⟨g,o+k*256,none⟩,256,(l.drop (k*256)).take 256⟩
theorem pcsP_len (g o:Nat) (l:List UInt8) (m:Nat):(pcsP g o l m).length=m:=by simp [pcsP]
theorem pcsP_l (g o:Nat) (l:List UInt8) (m:Nat):(pcsP g o l m).map (·.l)=cutB l m:=by simp [pcsP,cutB]
theorem pcs_256 {l:List UInt8} {m k:Nat} (hl:l.length=m*256) (hk:k<m):((l.drop (k*256)).take 256).length=256:=by
  rw [Zu,Zs];have h1:(k+1)*256≤m*256:=Nat.mul_le_mul_right _ hk;omega
theorem pcsP_flat (g o:Nat) (l:List UInt8) (m:Nat) (hl:l.length=m*256):∀ q,q≤m→(pcsP g o l q).flatMap sc=(pieces g o q).map slv
  | 0,_=>rfl
  | q+1,hq=>by
    have ih:=pcsP_flat g o l m hl q (by omega);unfold pcsP at ih ⊢;rw [pieces_succ,List.range_succ,List.map_append,List.flatMap_append,ih,List.map_append];congr 1;simp only [List.map_cons,List.map_nil,List.flatMap_cons,List.flatMap_nil,Zy,sc,bvv,pcs_256 hl (by omega:q<m)];rfl
theorem pcsP_hol {w:World} {A:Option Addr} {g o c m:Nat} {l:List UInt8} (hA:0<m→A=some ⟨g,o,none⟩) (h:Hol w A l) (hl:l.length=m*256) (hc:l.length≤c):∀ b ∈ pcsP g o l m,Hol w b.A b.l∧b.l.length≤2000∧b.l.length≤b.c:=fun b hb=>by
  obtain ⟨k,hk,rfl⟩:=List.mem_map.1 hb;have hk:=List.mem_range.1 hk;obtain rfl:=hA (by omega);have h2:=(h.cut (cap:=c) (k*256) hc).take_ 256;have h1:(k+1)*256≤m*256:=Nat.mul_le_mul_right _ hk;rw [if_neg (by omega)] at h2;have h3:=pcs_256 hl hk;refine ⟨?_,by show (List.take 256 (l.drop (k*256))).length≤2000;omega,by show (List.take 256 (l.drop (k*256))).length≤256;omega⟩;have e:(some (⟨g,o,none⟩:Addr)).map (·.add (k*256))=some ⟨g,o+k*256,none⟩:=by simp [Addr.add]
  rw [e] at h2;exact h2
section
variable {b:Nat} {w w':World} {gd gv gm gs r:Nat} {Bs:List BV} {N n m:Nat} {X:DX} {v R:Nat→Int} {F:Nat→UInt8}
theorem FO.bytes (h:FO Bs X v R m F) (L:Nat) (hk:DK b w gd gv gm gs r Bs N n X) (hn:n≤3000) (hsz:v 5=(L:Int)) (hL:L≤32768):
    Calls Tryz.prog 38 #[.pointer (some ⟨gd,0,none⟩),.agg (ncs v).toArray,.int .i64 0,.int .i64 (L:Int)] w fun e w'=>∃ YA yc,e=.returned (.slice YA L yc)∧Hid (Own8 w.heap.size w' ⟨YA,yc,lst L F⟩)∧Hid (DK b w' gd gv gm gs r Bs N n X)∧Hid (Chg [gd] w w'):=by
  by_cases h0:L=0
  · subst h0;refine (dread_nil v 0 0 hk hn 0 hsz (by omega) (Zj _)).mono ?_;rintro e w' ⟨⟨YA,yc,yl⟩,rfl,hy,ho,hk2,hc2⟩;have h1:yl=[]:=hy.out;subst h1;exact ⟨YA,yc,rfl,ho,hk2,hc2⟩
  · exact h.whole L L hk hn hsz (Zj _) ⟨by omega,hL⟩
def ListP (b:Nat) (w:World) (gd gv gm gs r:Nat) (Bs:List BV) (N n:Nat) (X:DX) (Lr:List Ent) (er:Int) (e:Ending) (w':World):Prop:=
  ∃ A c,e=.returned (.tuple #[.slice A Lr.length c,.int .i64 er])∧Hid (w'.ownsRow w.heap.size 61 5 (.slice A Lr.length c) Lr.length (Lr.flatMap ecs))∧Hid (DK b w' gd gv gm gs r Bs N n X)∧Hid (Chg [gd] w w')
theorem dlist (h:FO Bs X v R m F) (k L:Nat) (hL:L=k*256) (hk100:k≤100) (hsz:v 5=(L:Int)) (hk:DK b w gd gv gm gs r Bs N n X) (hn:n≤3000) (hT:∀ W,Chg [gd] w W→Tabs W):
    Calls Tryz.prog 16 #[.pointer (some ⟨gd,0,none⟩),.agg (ncs v).toArray] w (ListP b w gd gv gm gs r Bs N n X (prL (cutB (lst L F) k)) (prE (cutB (lst L F) k))):=by
  have HK:=Za hk;have HT:=Za hT;have HLL:=Za (p:=L=k*256∧k≤100∧L≤32768) ⟨hL,hk100,by omega⟩;have HRD:=Za (p:=∀ W,DK b W gd gv gm gs r Bs N n X→Calls Tryz.prog 38 #[.pointer (some ⟨gd,0,none⟩),.agg (ncs v).toArray,.int .i64 0,.int .i64 (L:Int)] W fun e w'=>∃ YA yc,e=.returned (.slice YA L yc)∧Hid (Own8 W.heap.size w' ⟨YA,yc,lst L F⟩)∧Hid (DK b w' gd gv gm gs r Bs N n X)∧Hid (Chg [gd] W w')) (fun W hW=>h.bytes L hW hn hsz (by omega));have i2:=Za (fun v=>info_ncs v);have ht:Int.tmod (L:Int) 256=0:=by rw [Int.tmod_eq_emod_of_nonneg (by omega)];omega
  have HSZ:=Za hsz;obtain ⟨Lr,hLr⟩:∃ Lr,prL (cutB (lst L F) k)=Lr:=⟨_,rfl⟩;obtain ⟨er,her⟩:∃ er,prE (cutB (lst L F) k)=er:=⟨_,rfl⟩;rw [hLr,her];have HPR:=Za (And.intro hLr her);clear h hk hT hL hk100 hsz hn hLr her;unfold ListP;go_enter Tryz.func16,Tryz.ntmps16
  go_wp2_with (first
    | (refine step_box rfl 3 rfl 43 (.tmp 1) rfl (ncs v) rfl ?_;intro g3 w1 hr1 hg1 hb1 hs1;have R1:=Za hr1
       have B1:=Za hb1;have HK1:=Za (HK.out.below hb1);have c5:w1.cell? ⟨g3,5,none⟩=some (.int .i64 (L:Int)):=by rw [← HSZ.out];exact (hr1.cell 5).trans rfl
       clear hr1 hg1 hb1 hs1)
    | (refine wpList_load_mid rfl 43 (.tmp 3) rfl g3 0 rfl (ncs v) _ R1.out.all Yh rfl (i2.out v) ?_)
    | (go_at_call 38;refine (HRD.out _ HK1.out).mono ?_;rintro e w2 ⟨YA,yc,rfl,hy,hk2,hc2⟩;have HY2:=hy
       have HK2:=hk2;have HC2:=Za (p:=Chg [gd] w w2) ((Chg.of (F:=[gd]) B1.out).trans hc2.out (fun x hx=>.inl hx))
       obtain ⟨g,o,hgo⟩:∃ g o,0<k→YA=some ⟨g,o,none⟩:=by
         by_cases h0:0<k
         · obtain ⟨g,o,e1,_⟩:=hy.out.hol.some_ (by show 0<(lst L F).length;rw [lst_len];have:=HLL.out;omega);exact ⟨g,o,fun _=>e1⟩
         · exact ⟨0,0,fun h=>absurd h h0⟩
       have HGO:=Za hgo;clear hy hk2 hc2 c5 hgo)
    | (go_at_call 41;refine (chunk_any YA L yc w2).mono ?_;rintro e w3 ⟨Bx,Bn,rfl,hcc,hb⟩;have HCC:=hcc
       have HK3:=Za (HK2.out.below hb.out);have HY3:=Za (HY2.out.below hb.out);have HC3:=Za (chg_nxt HC2.out hb.out);clear hcc hb)
    | (go_at_call 40;refine (collect_any Bx Bn YA g o yc k L HLL.out.1.symm (by have:=HLL.out;omega) HGO.out (by have h5:=HY3.out.cap;rw [show (BV.mk YA yc (lst L F)).l=lst L F from rfl,lst_len] at h5;exact h5) w3 HCC.out.1 HCC.out.2).mono ?_;rintro e w4 ⟨A4,c4,rfl,ho,hb⟩;have HO4:=ho
       have HK4:=Za (HK3.out.below hb.out);have HY4:=Za (HY3.out.below hb.out);have HC4:=Za (chg_nxt HC3.out hb.out);have hll:(lst L F).length=k*256:=by rw [lst_len];exact HLL.out.1
       have HPA:=Za (parse_any A4 k c4 (pcsP g o (lst L F) k) (by have:=HLL.out;omega) (pcsP_len _ _ _ _) w4 (Lies.own (by decide) sc_len (by rw [pcsP_flat g o (lst L F) k hll k (Zj _)];exact ho.out)) (fun y hy=>⟨(pcsP_hol HGO.out HY4.out.hol hll HY4.out.cap y hy).1,(pcsP_hol HGO.out HY4.out.hol hll HY4.out.cap y hy).2.1⟩) (HT.out _ HC4.out));rw [pcsP_l,HPR.out.1,HPR.out.2] at HPA;unfold ParP at HPA;clear ho hb hll)
    | (go_at_call 39;refine HPA.out.mono ?_;rintro e w5 ⟨A5,c5',rfl,ho,hb⟩;have HO5:=Za (own_lower ho HC4.out.size)
       have HK5:=Za (HK4.out.below hb);have HC5:=Za (chg_nxt HC4.out hb);clear ho hb HPA))
  go_ret2;exact ⟨_,_,rfl,HO5,HK5,HC5⟩
end
end Go.Proofs.YtijffkklhgnknaaGreatDoor
