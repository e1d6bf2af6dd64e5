/- Package grant: a number as bytes, flags as bytes. No conditions but those named. -/
import Derived.Test.YtijffkklhgnknaaGreatDoorAz
import Derived.Test.YtijffkklhgnknaaGreatDoorMgGs
import Derived.Test.YtijffkklhgnknaaGreatDoorMgMem
import Derived.Laws.CopyRow
import Derived.Lib.AppendZeros
import Derived.Maps.AppendAt
import Derived.Deep.Onto
import Derived.Lib.SlBytesConst
import Derived.BigQuiet
import Derived.Deep.QuietTactic
set_option maxHeartbeats 20000000
set_option linter.unusedVariables false
set_option maxRecDepth 20000
namespace Go.Proofs.YtijffkklhgnknaaGreatDoor
open Go.RowKit
theorem bq (q:Nat) (h:q<256):B (UInt8.ofNat q)=.int .u8 (q:Int):=by
  show Value.int .u8 (((UInt8.ofNat q).toNat:Nat):Int)=_;rw [UInt8.toNat_ofNat'];have e8:(2:Nat) ^ 8=256:=rfl;rw [e8,Nat.mod_eq_of_lt h]
def NewB (w:World) (l:List UInt8) (e:Ending) (w':World):Prop:=∃ A c,e=.returned (.slice A l.length c)∧Hid (w'.ownsRow w.heap.size 5 1 (.slice A l.length c) l.length (bc l))∧Hid (Below w.heap.size w w')
theorem gnumber_any (k x:Nat) (hk:k=2∨k=8) (hx:x<256 ^ k) (w:World):Calls Tryz.prog 130 #[.int .i64 (k:Int),.int .u64 (x:Int)] w (NewB w (leb x k)):=by
  have hx64:x<18446744073709551616:=by
    rcases hk with rfl | rfl
    · have e:(256:Nat) ^ 2=65536:=rfl;omega
    · exact hx
  have hp:=put_any none 0 [] (k:Int) x w (.inl rfl) hx64 (by simp)
  have hr:putR [] (k:Int) x=(leb x k,0):=by
    unfold putR;rw [if_neg (by rcases hk with rfl | rfl <;> decide),if_neg (by rw [Yf];intro h;exact h (Nat.div_eq_of_lt hx)),Yf];rfl
  rw [hr] at hp;have HP:=Za hp;clear hp hr hx hx64 hk;go_enter Tryz.func130,Tryz.ntmps130
  go_wp2_with (go_at_call 107;refine HP.out.mono ?_;rintro e w1 ⟨v,rfl,hown,hb⟩;obtain ⟨A1,c1,rfl⟩:=own_sl hown
               have HO:=Za hown;have HB:=Za hb;clear hown hb)
  go_ret;exact ⟨A1,c1,rfl,HO,HB⟩
def uq (f:Nat→Bool) (k q:Nat) (j:Nat):UInt8:=if j<k then bt f j else if j=k then UInt8.ofNat q else 0
theorem uq_self (f:Nat→Bool) (k q:Nat):uq f k q k=UInt8.ofNat q:=by unfold uq;rw [if_neg (by omega),if_pos rfl]
theorem uq_upd (f:Nat→Bool) (k q q2:Nat):upd (uq f k q) k (UInt8.ofNat q2)=uq f k q2:=by
  funext j;unfold upd uq;by_cases h:j=k
  · rw [if_pos h,if_neg (by omega),if_pos h]
  · rw [if_neg h];by_cases h2:j<k
    · rw [if_pos h2,if_pos h2]
    · rw [if_neg h2,if_neg h2,if_neg h,if_neg h]
theorem uq_next (f:Nat→Bool) (k:Nat):uq f k (bn f k 8)=uq f (k+1) 0:=by
  funext j;unfold uq;by_cases h:j<k
  · rw [if_pos h,if_pos (by omega)]
  · rw [if_neg h];by_cases h2:j=k
    · subst h2;rw [if_pos rfl,if_pos (by omega)];rfl
    · rw [if_neg h2,if_neg (by omega)]
      split <;> rfl
theorem uq_zero (f:Nat→Bool):uq f 0 0=fun _=>0:=by
  funext j;unfold uq;rw [if_neg (by omega)]
  split <;> rfl
theorem bn_le (f:Nat→Bool) (k m:Nat) (hm:m≤8):bn f k m<256:=by
  have h1:=bn_lt f k m;have h2:2 ^ m≤2 ^ 8:=Nat.pow_le_pow_right (by decide) hm;have e:(2:Nat) ^ 8=256:=rfl;omega
theorem packbits_any (A:Option Addr) (c n m:Nat) (f:Nat→Bool) (hn:n=8*m) (hm:m≤32) (hc:n≤c) (w:World) (hA:HolBo w A n f):Calls Tryz.prog 131 #[.slice A n c] w fun e w'=>∃ g,e=.returned (.slice (some ⟨g,0,none⟩) m m)∧Hid (Row w' g 5 (brr m (bt f)))∧Hid (w.heap.size≤g)∧Hid (Below w.heap.size w w'):=by
  obtain ⟨i,U⟩:=u8_tab;have h1:(n:Int) / 8=(m:Int):=by omega
  have h2:Int.tdiv (n:Int) 8=(m:Int):=by rw [Int.tdiv_eq_ediv_of_nonneg (by omega)];exact h1
  have h3:wrap64 (m:Int)=(m:Int):=by unfold wrap64;omega
  have HA:=Za hA;have HN:=Za hn;have HM:=Za hm;clear hA hn hm hc;go_enter Tryz.func131,Tryz.ntmps131
  go_wp2_with (refine step_make rfl _ _ 23 5 i U rfl m (congrArg (Value.int .i64) h3) (congrArg (Value.int .i64) h3) (by have:=HM.out;omega) ?_;intro gb w1 hr1 hg1 hb1 hs1;have R1:=Za hr1
               have HB1:=Za hb1;have QB:=Za (p:=w.heap.size≤gb) (by rw [hg1.out];exact Zj _);clear hr1 hg1 hb1 hs1)
  have R1':=Za (p:=Row w1 gb 5 (brr m (uq f 0 0))) (by rw [uq_zero];exact R1.out);clear R1;go_loopw [12] (fun y wr=>∃ k:Nat,k≤m∧y=.int .i64 (k:Int)∧Hid (Row wr gb 5 (brr m (uq f k 0)))∧Hid (Below w.heap.size w wr)) (fun y _=>32 - (intOf y).toNat)
  case atStart=>exact ⟨0,by omega,rfl,R1',HB1⟩
  case round =>
    clear R1' HB1;obtain ⟨k,hk,rfl,HR,HB⟩:=hrel;have hkw:IntKind.i64.wrap ((k:Int)+1)=(k:Int)+1:=by rw [Zg];have:=HM.out;omega
    by_cases hkm:k<m
    · have hki:(k:Int)<(m:Int):=by omega
      have HK:=Za hkm;have h8k:IntKind.i64.wrap (8*(k:Int))=((8*k:Nat):Int):=by rw [Zg];have:=HM.out;omega
      obtain ⟨p0,hp0⟩:∃ p0,8*k=p0:=⟨_,rfl⟩;rw [hp0] at h8k;have HP0:=Za hp0;clear hk hkm hp0;go_wp2;go_loopw [15] (fun y wr=>∃ b:Nat,b≤8∧y=.int .i64 (b:Int)∧Hid (Row wr gb 5 (brr m (uq f k (bn f k b))))∧Hid (Below w.heap.size w wr)) (fun y _=>8 - (intOf y).toNat)
      case atStart=>exact ⟨0,by omega,rfl,HR,HB⟩
      case round=>
        clear HR HB;obtain ⟨b,hb,rfl,HR,HB⟩:=hrel;have hbw:IntKind.i64.wrap ((b:Int)+1)=(b:Int)+1:=by rw [Zg];omega
        by_cases hb8:b<8
        · have hbi:(b:Int)<8:=by omega
          have hb0:(0:Int)≤(b:Int):=by omega
          obtain ⟨p,hp⟩:∃ p,p0+b=p:=⟨_,rfl⟩;have hpw:IntKind.i64.wrap ((p0:Int)+(b:Int))=(p:Int):=by rw [Zg];have:=HM.out;have:=HP0.out;have:=HK.out;omega
          have hpn:(p:Int)<(n:Int):=by have:=HN.out;have:=HP0.out;have:=HK.out;omega
          obtain ⟨gf,of,rfl,hcf⟩:=HA.out.below HB.out;have cf:=hcf p (by omega);have hst:=bn_step f k b;rw [HP0.out,hp] at hst;have hq:=bn_le f k b hb;have hlt:=bn_lt f k b;obtain ⟨q,hqq⟩:∃ q,bn f k b=q:=⟨_,rfl⟩;rw [hqq] at hst hq hlt;have c1:wr.cell? ⟨gb,k,none⟩=some (.int .u8 (q:Int)):=by rw [HR.out.cell,brr_get _ HK.out,uq_self,hqq,bq q hq]
          have f1:=HR.out.free k;cases hfp:f p
          · rw [hfp] at cf hst;have HST:=Za (p:=bn f k (b+1)=bn f k b) (by rw [hst,hqq];rfl);have HB8:=Za hb8;clear hcf hst hq hlt hqq c1 f1 hfp hp hb hb8;go_wp2;go_roundw
            case rel=>exact ⟨b+1,by have:=HB8.out;omega,by go_num,by rw [HST.out];exact HR,HB⟩
            case measure=>have:=HB8.out;simp [intOf];omega
          · rw [hfp,if_pos rfl] at hst;rw [hfp] at cf;have hs1:=shl_bit b hb8;have ho1:=or_bit q b hlt hb8;obtain ⟨pp,hpp⟩:∃ pp,2 ^ b=pp:=⟨_,rfl⟩;rw [hpp] at hs1 ho1 hst hlt;obtain ⟨q2,hq2⟩:∃ q2,q+pp=q2:=⟨_,rfl⟩;rw [hq2] at ho1 hst;have hq2l:q2<256:=by rw [← hst];exact bn_le f k (b+1) (by omega)
            have HQQ:=Za hqq;have HST:=Za hst;have HQ2:=Za hq2l;have HB8:=Za hb8;clear hcf hst hq hlt hqq hfp hp hb hb8 hpp hq2 hq2l;go_wp2;go_region;go_wp2;go_roundw
            case rel=>exact ⟨b+1,by have:=HB8.out;omega,by go_num,Za (by rw [HST.out, ← uq_upd f k q q2, ← brr_set,bq q2 HQ2.out, ← HQQ.out];exact (HR.out.put _ _).drew),Za (HB.out.setCell (p:=⟨gb,k,none⟩) QB.out _).drew⟩
            case measure=>have:=HB8.out;simp [intOf];omega
        · obtain rfl:b=8:=by omega
          have HR2:=Za (p:=Row wr gb 5 (brr m (uq f (k+1) 0))) (by rw [← uq_next];exact HR.out);clear hb hb8 HR;go_wp2;go_roundw
          case rel=>exact ⟨k+1,by have:=HK.out;omega,by go_num,HR2,HB⟩
          case measure=>have:=HK.out;have:=HM.out;simp [intOf];omega
    · obtain rfl:k=m:=by omega
      have HR2:=Za (p:=Row wr gb 5 (brr k (bt f))) (by rw [brr_congr (g:=uq f k 0) (fun j hj=>by unfold uq;rw [if_pos hj])];exact HR.out);have hki:¬ (k:Int)<(k:Int):=by omega
      clear hk hkm HR;go_wp2;go_ret;exact ⟨gb,rfl,HR2,QB,HB⟩
/- A run of bytes 0 appended to a row of the call's own that has room for them. No conditions but those named. -/
theorem zero_list (m:Nat):(Builtin.zeroCells #[Value.int .u8 0] m).toList=List.replicate m (Value.int .u8 0):=by
  apply List.ext_getElem
  · simp [Builtin.zeroCells]
  · intro i h1 h2;simp [Builtin.zeroCells,Nat.mod_one]
theorem run_zeros {P:Program} (w:World) (t tn ty e:TypeId) (i:TypeInfo) (U:U8 P t e i) (htn:P.underlying tn=some (.int .i64)) (base g n m cap:Nat) (xs:List Value)
    (hown:w.ownsRow base e 1 (.slice (some ⟨g,0,none⟩) n cap) n xs) (hfit:n+m≤cap) (hm:m≤140737488355328):
    ∃ w',(Builtin.append_ #[t,tn] ty #[.slice (some ⟨g,0,none⟩) n cap,.int .i64 m]).run P w=.ok (.slice (some ⟨g,0,none⟩) (n+m) cap) w'∧
      w'.ownsRow base e 1 (.slice (some ⟨g,0,none⟩) (n+m) cap) (n+m) (xs++List.replicate m (Value.int .u8 0))∧w.grownBy w' (some g):=by
  obtain ⟨hl,h | ⟨g',cap',cur,hv,hb,hg,hn,hc,hs,ht⟩⟩:=hown
  · cases h.1
  simp only [Value.slice.injEq,Option.some.injEq,Addr.mk.injEq] at hv;obtain ⟨⟨rfl,_⟩,_,rfl⟩:=hv;have hst:=run_storeCells_at P g n e (List.replicate m (Value.int .u8 0)) 0 cur w hg (by simp;omega) (fun v hv=>by rw [List.eq_of_mem_replicate hv];rfl);have hwr:IntKind.i64.wrap (m:Int)=m:=by rw [Zg];omega
  have hadd:(⟨g,0,none⟩:Addr).add n=⟨g,n,none⟩:=by unfold Addr.add;split <;> simp_all
  simp only [Nat.add_zero,List.length_replicate] at hst;obtain ⟨cur',hcur⟩:∃ cur':Array Value,cur'=(cur.toList.take n++List.replicate m (Value.int .u8 0)++cur.toList.drop (n+m)).toArray:=⟨_,rfl⟩;rw [← hcur] at hst;have hx:xs.length=n:=by omega
  refine ⟨w.setRow g cur',?_,⟨?_,.inr ⟨g,cap,cur',rfl,hb,setRow_heap w g _ _ e _ hg,hfit,hc,?_,?_⟩⟩,⟨rfl,rfl,rfl,by simp,fun k hk hne=>setRow_other w g k _ (fun e=>hne (by rw [e]))⟩⟩
  · have hneg:¬ ((m:Int)<0):=by omega
    have h48:¬ ((281474976710656:Int)<m):=by omega
    by_cases h0:m=0
    · subst h0;have hw0:IntKind.i64.wrap 0=0:=by decide
      have hf0:n≤cap:=by omega
      simp [Builtin.append_,run_underlying U.ht,run_underlying htn,sizeOf,typeInfo,zeroValue,U.hi,U.hz,U.h1,U.h2,asInt,asIntOf,hw0,hf0,hadd];simp at hst;simp [hst]
    · have hc0:(Value.int IntKind.u8 0).cells=#[Value.int IntKind.u8 0]:=rfl;simp [Builtin.append_,run_underlying U.ht,run_underlying htn,sizeOf,typeInfo,zeroValue,U.hi,U.hz,U.h1,U.h2,asInt,asIntOf,hwr,hfit,hneg,h48,hadd,h0,hc0,zero_list,hst]
  · simp only [Zf,List.length_replicate,hl];omega
  · rw [hcur];simp;omega
  · rw [hcur];simp only [Nat.mul_one] at ht ⊢;rw [← ht,List.take_left'];simp;omega
/- A run of zeros,appended to a row of bytes of the call's own:whether there is room or not. No conditions. -/
theorem run_zeros_grow {P:Program} (w:World) (t tn ty e:TypeId) (i:TypeInfo) (U:U8 P t e i) (htn:P.underlying tn=some (.int .i64)) (base g n m cap:Nat) (xs:List Value)
    (hown:w.ownsRow base e 1 (.slice (some ⟨g,0,none⟩) n cap) n xs) (hg:cap<n+m) (hm0:0<m) (hm:n+m≤1000000) (hbase:base≤w.heap.size):
    ∃ c' w',(Builtin.append_ #[t,tn] ty #[.slice (some ⟨g,0,none⟩) n cap,.int .i64 m]).run P w=.ok (.slice (some ⟨w.heap.size,0,none⟩) (n+m) c') w'∧
      w'.ownsRow base e 1 (.slice (some ⟨w.heap.size,0,none⟩) (n+m) c') (n+m) (xs++List.replicate m (Value.int .u8 0))∧w.grownBy w' none:=by
  have hl:xs.length=n*1:=hown.1;have holds:∀ j u,xs[j]?=some u→w.cell? ((⟨g,0,none⟩:Addr).add j)=some u:=hown.cells (g:=g) rfl;have hn:¬ (n+m≤cap):=by omega
  have h63':¬ (9223372036854775807<((n:Int)+(m:Int))):=by omega
  have hcapm:cap≤maxLen:=by
    rcases hown.2 with ⟨h,_⟩ | ⟨g',cap',cur,hv,hb,hg',hn',hc,hs,ht⟩
    · cases h
    · simp only [Value.slice.injEq] at hv;omega
  have h48:Builtin.nextslicecap (n+m) cap*1≤281474976710656:=growslice_fits (by omega) (by omega);have h48':¬ (281474976710656<Builtin.nextslicecap (n+m) cap):=by omega
  have hwr:IntKind.i64.wrap (m:Int)=m:=by rw [Zg];omega
  have hneg:¬ ((m:Int)<0):=by omega
  have hbig:¬ ((281474976710656:Int)<m):=by omega
  have h0:m≠0:=by omega
  have hfo:=run_firstCells_some (P:=P) w.drew 1 n ⟨g,0,none⟩ n cap xs hl (by simpa using holds);have hc0:(Value.int IntKind.u8 0).cells=#[Value.int IntKind.u8 0]:=rfl;have hge:=grownCap_ge w (n+m) cap e;have hcm:grownCap w (n+m) cap e≤maxLen:=grownCap_le_maxLen w (n+m) cap e (by unfold maxLen;omega)
  have hzl:Builtin.zeroCells #[Value.int .u8 0] m=(List.replicate m (Value.int .u8 0)).toArray:=by
    apply Array.ext';rw [zero_list]
  have hlen:(xs++List.replicate m (Value.int .u8 0)).length=(n+m)*1:=by rw [Zf,List.length_replicate];omega
  refine ⟨grownCap w (n+m) cap e,w.drew.alloc (.cells (xs.toArray++(List.replicate m (Value.int .u8 0)).toArray++Builtin.zeroCells #[Value.int .u8 0] (grownCap w (n+m) cap e - (n+m))) e),?_,⟨hlen,.inr ⟨w.heap.size,_,_,rfl,hbase,heap_alloc_new w.drew _,hge,hcm,?_,?_⟩⟩,⟨rfl,rfl,rfl,by simp,fun k hk _=>(heap_alloc_old w.drew _ hk)⟩⟩
  · simp [Builtin.append_,run_underlying U.ht,run_underlying htn,sizeOf,typeInfo,zeroValue,U.hi,U.hz,U.h1,U.h2,asInt,asIntOf,hwr,hneg,hbig,h0,hn,h63',h48',Question.forced,hfo,hc0,hzl,newRow,grownCap]
  · have hz1:(Builtin.zeroCells #[Value.int .u8 0] (grownCap w (n+m) cap e - (n+m))).size=grownCap w (n+m) cap e - (n+m):=by
      rw [← Array.length_toList,zero_list,List.length_replicate]
    simp only [Array.size_append,List.size_toArray,hz1,List.length_replicate];omega
  · simp only [Array.toList_append];rw [← hlen];exact List.take_left
theorem wpList_zeros {P:Program} {w:World} {ops:Array Oper} {rest:List Oper} {o:Oper} {a:Act} {Q:Exit→Act→World→Prop} (hgd:o.guard=none) (s x:Operand) (t tn:TypeId)
    (ho:o.op=.call { callee:=.builtin .append,args:=#[s,x],argTypes:=#[t,tn] }) (e:TypeId) (i:TypeInfo) (U:U8 P t e i) (htn:P.underlying tn=some (.int .i64)) (base g n m cap:Nat) (xs:List Value)
    (hs:a.eval s=.slice (some ⟨g,0,none⟩) n cap) (hx:a.eval x=.int .i64 m) (hown:w.ownsRow base e 1 (.slice (some ⟨g,0,none⟩) n cap) n xs) (hm0:0<m) (hm:n+m≤1000000) (hbase:base≤w.heap.size)
    (h:∀ g' c' w',w'.ownsRow base e 1 (.slice (some ⟨g',0,none⟩) (n+m) c') (n+m) (xs++List.replicate m (Value.int .u8 0))→w.grownBy w' (some g)→wpList P ops Q rest (a.put o.dst (.slice (some ⟨g',0,none⟩) (n+m) c')) w'):wpList P ops Q (o::rest) a w:=by
  by_cases hfit:n+m≤cap
  · obtain ⟨w',hr,h1,h2⟩:=run_zeros (P:=P) w t tn o.type e i U htn base g n m cap xs hown hfit (by omega);exact Lib.wpList_append_run w hgd s x t tn ho _ _ hs hx _ _ hr (h g cap w' h1 h2)
  · obtain ⟨c',w',hr,h1,h2⟩:=run_zeros_grow (P:=P) w t tn o.type e i U htn base g n m cap xs hown (by omega) hm0 hm hbase;exact Lib.wpList_append_run w hgd s x t tn ho _ _ hs hx _ _ hr (h w.heap.size c' w' h1 ⟨h2.os,h2.tape,h2.output,h2.size,fun k hk _=>h2.block k hk (by simp)⟩)
/- Package grant:a super's block. Conditions:those named. -/
theorem run_app_grow {P:Program} (w:World) (t ty e:TypeId) (i:TypeInfo) (U:U8 P t e i) (base g n cap:Nat) (l:List UInt8) (hn:l.length=n) (hD:Hol w (some ⟨g,0,none⟩) l)
    (A:Option Addr) (m c:Nat) (l2:List UInt8) (hm:l2.length=m) (hA:Hol w A l2) (hcap:cap<n+m) (hcn:cap≤1000) (hb:n+m≤1000000) (hm0:0<m) (hbase:base≤w.heap.size):
    ∃ c' w',(Builtin.append_ #[t,t] ty #[.slice (some ⟨g,0,none⟩) n cap,.slice A m c]).run P w=.ok (.slice (some ⟨w.heap.size,0,none⟩) (n+m) c') w'∧
      w'.ownsRow base e 1 (.slice (some ⟨w.heap.size,0,none⟩) (n+m) c') (n+m) (bc l++bc l2)∧Below w.heap.size w w':=by
  obtain ⟨g2,o2,rfl,_,hc2⟩:=hA.some_ (by omega)
  have hc1:∀ j u,(bc l)[j]?=some u→w.cell? ((⟨g,0,none⟩:Addr).add j)=some u:=fun j u hu=>by
    obtain ⟨x,hx,rfl⟩:=bc_get hu;rcases hD with rfl | ⟨g',o',e',hc⟩
    · cases hx
    · injection e' with e'
      injection e' with e1 e2
      subst e1 e2;have:=hc j x hx;rw [show (⟨g,0,none⟩:Addr).add j=⟨g,0+j,none⟩ by unfold Addr.add;split <;> simp_all];exact this
  have hc3:∀ j u,(bc l2)[j]?=some u→w.cell? ((⟨g2,o2,none⟩:Addr).add j)=some u:=fun j u hu=>by
    obtain ⟨x,hx,rfl⟩:=bc_get hu;have:=hc2 j x hx;rw [show (⟨g2,o2,none⟩:Addr).add j=⟨g2,o2+j,none⟩ by unfold Addr.add;split <;> simp_all];exact this
  have hr:=run_append_grow (P:=P) w t ty e i (.int .u8 0) U.ht U.hi U.hz ⟨g,0,none⟩ n cap (bc l) (by rw [bc_len,U.h1];omega) hc1 ⟨g2,o2,none⟩ m c (bc l2) (by rw [bc_len,U.h1];omega) hc3 hcap (by omega) (by rw [U.h2];exact growslice_fits (by omega) (by omega));have hge:=grownCap_ge w (n+m) cap e;have hcm:grownCap w (n+m) cap e≤maxLen:=grownCap_le_maxLen w (n+m) cap e (by unfold maxLen;omega);have hlen:(bc l++bc l2).length=(n+m)*1:=by rw [Zf,bc_len,bc_len];omega
  have hz1:(Builtin.zeroCells (Value.int .u8 0).cells (grownCap w (n+m) cap e - (n+m))).size=grownCap w (n+m) cap e - (n+m):=by
    rw [← Array.length_toList,show (Value.int .u8 0).cells=#[Value.int .u8 0] from rfl,zero_list,List.length_replicate]
  refine ⟨_,_,hr,⟨hlen,.inr ⟨w.heap.size,_,_,rfl,hbase,heap_alloc_new w.drew _,hge,hcm,?_,?_⟩⟩,?_⟩
  · simp only [Array.size_append,List.size_toArray,hz1,bc_len];omega
  · simp only [Array.toList_append];rw [← hlen];exact List.take_left
  · exact ((Below.refl _ _).drew).alloc (Zj _) _
theorem wpList_grow {P:Program} {w:World} {ops:Array Oper} {rest:List Oper} {o:Oper} {a:Act} {Q:Exit→Act→World→Prop} (hgd:o.guard=none) (s x:Operand) (t:TypeId)
    (ho:o.op=.call { callee:=.builtin .append,args:=#[s,x],argTypes:=#[t,t] }) (e:TypeId) (i:TypeInfo) (U:U8 P t e i) (base g n cap:Nat) (l:List UInt8) (hs:a.eval s=.slice (some ⟨g,0,none⟩) n cap) (hn:l.length=n) (hD:Hol w (some ⟨g,0,none⟩) l)
    (A:Option Addr) (m c:Nat) (l2:List UInt8) (hx:a.eval x=.slice A m c) (hm:l2.length=m) (hA:Hol w A l2) (hcap:cap<n+m) (hcn:cap≤1000) (hb:n+m≤1000000) (hm0:0<m) (hbase:base≤w.heap.size)
    (h:∀ c' w',w'.ownsRow base e 1 (.slice (some ⟨w.heap.size,0,none⟩) (n+m) c') (n+m) (bc l++bc l2)→Below w.heap.size w w'→wpList P ops Q rest (a.put o.dst (.slice (some ⟨w.heap.size,0,none⟩) (n+m) c')) w'):wpList P ops Q (o::rest) a w:=by
  refine wpList_plain hgd fun K hK=>?_;obtain ⟨c',w',hr,h1,h2⟩:=run_app_grow (P:=P) w t o.type e i U base g n cap l hn hD A m c l2 hm hA hcap hcn hb hm0 hbase;unfold Oper.wp execOp;simp only [ho,resolve,invoke,builtin,Sem.run_bind,Sem.run_pure,Zw,List.map_toArray,List.map_cons,List.map_nil,hs,hx,hr];exact hK _ _ (h c' w' h1 h2)
theorem sgn_hol (w:World):Hol (w.alloc (.cells #[.int .u8 79,.int .u8 85,.int .u8 66,.int .u8 49] 5 (4,5))) (some ⟨w.heap.size,0,none⟩) [79,85,66,49]:=by
  refine .inr ⟨_,_,rfl,fun j x hx=>?_⟩;have hh:(w.alloc (.cells #[.int .u8 79,.int .u8 85,.int .u8 66,.int .u8 49] 5 (4,5))).heap[w.heap.size]?=some (.cells #[.int .u8 79,.int .u8 85,.int .u8 66,.int .u8 49] 5 (4,5)):=heap_alloc_new w _;rw [cell_of_row _ w.heap.size (0+j) _ _ _ hh,Nat.zero_add];rcases j with _ | _ | _ | _ | j
  · injection hx with hx;subst hx;rfl
  · injection hx with hx;subst hx;rfl
  · injection hx with hx;subst hx;rfl
  · injection hx with hx;subst hx;rfl
  · simp at hx
theorem gpack_not (x:Sup) (h:¬ x.May) (w:World):Calls Tryz.prog 104 #[.agg x.cs.toArray] w fun e w'=>e=.returned (.tuple #[.slice none 0 0,.int .i64 201])∧Below w.heap.size w w':=by
  have i1:=Za (fun x:Sup=>info_cs x);have HMB:=Za (fun w=>maybe_any x false ⟨fun e=>(by cases e),fun e=>absurd e h⟩ w);clear h;go_enter Tryz.func104,Tryz.ntmps104
  go_wp2_with (first
    | (refine step_box rfl 1 rfl 76 (.tmp 0) rfl x.cs rfl ?_;intro g2 w2 hr2 hg2 hb2 hs2;have R2:=Za hr2
       have HB2:=Za hb2;have Q2:=Za (p:=w.heap.size≤g2) (by rw [hg2.out];exact Zj _);clear hr2 hb2 hg2 hs2)
    | (refine step_load rfl 7 rfl 76 (.tmp 1) rfl g2 rfl x.cs _ R2.out.all Yj rfl (i1.out _) ?_)
    | (go_at_call 129;refine (HMB.out _).mono ?_;rintro e w3 ⟨rfl,hb3⟩;have HB3:=Za (below_nxt hb3 HB2.out)
       clear hb3))
  go_ret2;exact ⟨rfl,HB3.out⟩
structure Buf (w0 w:World) (g2:Nat) (A:Option Addr) (n c:Nat) (l:List UInt8):Prop where
  own:w.ownsRow w0.heap.size 5 1 (.slice A n c) n (bc l)
  far:∀ k,(Value.slice A n c).ownBlock=some k→g2<k
theorem Buf.kept {w0 w w':World} {g2 n c:Nat} {A:Option Addr} {l:List UInt8} (h:Buf w0 w g2 A n c l) (hb:Below w.heap.size w w'):Buf w0 w' g2 A n c l:=⟨own_kept h.own hb,h.far⟩
theorem Buf.app {w0 w w':World} {g2 n c m n':Nat} {A:Option Addr} {l l2:List UInt8} {v:Value} {t:TypeId} {cs:List Value} (h:Buf w0 w g2 A n c l) (hn:n+m=n') (ho:w'.ownsRow w0.heap.size 5 1 v (n+m) (bc l++bc l2)) (hg:w.grownBy w' (Value.slice A n c).ownBlock) (hat:v.ownBlock=(Value.slice A n c).ownBlock∨v.ownBlock=some w.heap.size) (hr:Row w g2 t cs) (hb:Below w0.heap.size w0 w):
    ∃ A' c',v=.slice A' n' c'∧Hid (Buf w0 w' g2 A' n' c' (l++l2))∧Hid (Row w' g2 t cs)∧Hid (Below w0.heap.size w0 w'):=by
  subst hn;obtain ⟨A',c',rfl⟩:=own_sl ho;refine ⟨A',c',rfl,Za ⟨by rw [bc_app];exact ho,fun k hk=>?_⟩,Za (hr.grown hg (fun e=>?_)),Za (hb.grown hg hb.size (fun k hk=>?_))⟩
  · rcases hat with e | e
    · exact h.far k (by rw [← e];exact hk)
    · rw [e] at hk;injection hk with hk
      have:=hr.lt;omega
  · have:=h.far g2 e.symm;omega
  · exact (h.own.lt k hk).1
theorem gpack_ok (x:Sup) (h:x.May) (hs64:x.s<18446744073709551616) (w:World):Calls Tryz.prog 104 #[.agg x.cs.toArray] w fun e w'=>∃ g c,e=.returned (.tuple #[.slice (some ⟨g,0,none⟩) 256 c,.int .i64 0])∧Hid (w'.ownsRow w.heap.size 5 1 (.slice (some ⟨g,0,none⟩) 256 c) 256 (bc (lst 256 x.pb)))∧Hid (Below w.heap.size w w'):=by
  obtain ⟨i,U⟩:=u8_tab;have i1:=Za (fun x:Sup=>info_cs x);have HMB:=Za (fun w=>maybe_any x true ⟨fun _=>h,fun _=>rfl⟩ w);have HMAY:=Za h;obtain ⟨s,hs⟩:∃ s,x.s=s:=⟨_,rfl⟩;have HSS:=Za hs;have HNS:=Za (fun w=>gnumber_any 8 s (.inr rfl) (by rw [← hs];exact hs64) w);have kc:=fun (w:World) (C:Array Value) (n c:Nat)=>Lib.run_convert_bytes_const (P:=Tryz.prog) w 23 5 C n c Tryz.underlying23 Tryz.underlying5;clear h hs64 hs;go_enter Tryz.func104,Tryz.ntmps104
  go_wp2_with (first
    | (refine step_box rfl 1 rfl 76 (.tmp 0) rfl x.cs rfl ?_;intro g2 w2 hr2 hg2 hb2 hs2;have R2:=Za hr2
       have HB2:=Za hb2;have Q2:=Za (p:=w.heap.size≤g2) (by rw [hg2.out];exact Zj _);clear hr2 hb2 hg2 hs2)
    | (refine step_load rfl 7 rfl 76 (.tmp 1) rfl g2 rfl x.cs _ R2.out.all Yj rfl (i1.out _) ?_)
    | (go_at_call 129;refine (HMB.out _).mono ?_;rintro e w3 ⟨rfl,hb3⟩;have R3:=Za (R2.out.kept hb3)
       have HB3:=Za (below_nxt hb3 HB2.out);have c0:∀ o,(w3.alloc o).cell? ⟨g2,0,none⟩=some (.int .u64 (s:Int)):=fun o=>by rw [(R3.out.alloc o).cell,x.c_s,HSS.out]
       clear hb3 HMB)
    | (go_at_call 130;refine (HNS.out _).mono ?_;rintro e w5 ⟨A5,c5,rfl,ho5,hb5⟩;have HB4:=Za (p:=Below w.heap.size w (w3.alloc (.cells #[.int .u8 79,.int .u8 85,.int .u8 66,.int .u8 49] 5 (4,5)))) (HB3.out.alloc HB3.out.size _)
       have R5:=Za ((R3.out.alloc (.cells #[.int .u8 79,.int .u8 85,.int .u8 66,.int .u8 49] 5 (4,5))).kept hb5.out);have HH5:=Za ((sgn_hol w3).below hb5.out);have HB5:=Za (below_nxt hb5.out HB4.out);clear c0 hb5 HNS kc)
    | (at_builtin;(refine wpList_grow rfl _ _ _ rfl 5 i U w.heap.size w3.heap.size 4 4 [79,85,66,49] rfl rfl HH5.out A5 (leb s 8).length c5 (leb s 8) rfl rfl (Hol.own ho5.out) (by rw [leb_len];omega) (by omega) (by rw [leb_len];omega) (by rw [leb_len];omega) HB5.out.size ?_)
       intro c6 w6 ho6 hb6;have h12:4+(leb s 8).length=12:=by rw [leb_len]
       rw [h12] at ho6 ⊢;have R6:=Za (R5.out.kept hb6);have HB6:=Za (below_nxt hb6 HB5.out);have HO6:=Za (p:=Buf w w6 g2 (some ⟨w5.heap.size,0,none⟩) 12 c6 (lst 12 x.pb)) ⟨by rw [x.pb_ser,x.pb_sgn,HSS.out,bc_app];exact ho6,fun k hk=>by have hk:some w5.heap.size=some k:=hk;injection hk with hk;have:=R5.out.lt;omega⟩;obtain ⟨A6,hA6⟩:∃ A6:Option Addr,some ⟨w5.heap.size,0,none⟩=A6:=⟨_,rfl⟩;rw [hA6] at HO6 ⊢;clear ho6 hb6 ho5 HH5 R5 HB5 h12 hA6)
    | (go_at_call 131;refine (packbits_any (some ⟨g2,1,none⟩) 256 256 32 x.u rfl (by omega) (Zj _) _ (Sup.hol_u R6.out)).mono ?_;rintro e w7 ⟨g7,rfl,hr7,hg7,hb7⟩;have R7:=Za (R6.out.kept hb7.out)
       have HO7:=Za (HO6.out.kept hb7.out);have HB7:=Za (below_nxt hb7.out HB6.out);clear hg7 hb7 HO6)
    | (at_builtin;(refine wpList_app _ rfl _ _ _ rfl 5 i U w.heap.size _ 12 _ rfl HO7.out.own (some ⟨g7,0,none⟩) 32 32 (lst 32 (bt x.u)) rfl (by rw [lst_len]) hr7.out.hol (by omega) HB7.out.size ?_)
       intro v8 w8 ho8 hg8 hat8;obtain ⟨A8,c8,rfl,HO8',R8,HB8⟩:=Buf.app (n':=44) (h:=HO7.out) rfl ho8 hg8 hat8 R7.out HB7.out;have HO8:=Za (p:=Buf w w8 g2 A8 44 c8 (lst (44+2*0) x.pb)) (by show Buf w w8 g2 A8 44 c8 (lst 44 x.pb);rw [x.pb_used];exact HO8'.out);clear ho8 hg8 hat8 hr7 HO8' HO7))
  go_loopw [4,24] (fun v y wr=>∃ (k n:Nat) (A:Option Addr) (c:Nat),k≤64∧y=.int .i64 (k:Int)∧v=.slice A n c∧Hid (n=44+2*k)∧Hid (Buf w wr g2 A n c (lst (44+2*k) x.pb))∧Hid (Row wr g2 76 x.cs)∧Hid (Below w.heap.size w wr)) (fun _ y _=>64 - (intOf y).toNat)
  case atStart=>exact ⟨0,44,A8,c8,by omega,rfl,rfl,Za rfl,HO8,R8,HB8⟩
  case round =>
    clear HO8 R8 HB8;obtain ⟨k,n,A,c,hk,rfl,rfl,HN,HO,HR,HB⟩:=hrel;have hkw:IntKind.i64.wrap ((k:Int)+1)=(k:Int)+1:=by rw [Zg];omega
    by_cases hk64:k<64
    · have hki:(k:Int)<64:=by omega
      have HK:=Za hk64
      obtain ⟨m,hm,hm256⟩:∃ m:Nat,x.i (k+1)=(m:Int)∧m<256:=by
        have hok:=HMAY.out.2.2.2 (k+1) (by omega);unfold Sup.OkA at hok;by_cases h0:x.i (k+1)=0
        · exact ⟨0,h0,by omega⟩
        · rw [if_neg h0] at hok;exact ⟨(x.i (k+1)).toNat,by omega,by omega⟩
      have c1:wr.cell? ⟨g2,258+k,none⟩=some (.int .i64 (m:Int)):=by rw [HR.out.cell,show 258+k=257+(k+1) by omega,x.c_i (by omega),hm]
      have hmw:IntKind.u64.wrap (m:Int)=(m:Int):=by rw [IntKind.wrap_u64];omega
      have HNM:=Za (fun w=>gnumber_any 2 m (.inl rfl) (by have e:(256:Nat) ^ 2=65536:=rfl;omega) w);have HPB:=Za (p:=lst (44+2*(k+1)) x.pb=lst (44+2*k) x.pb++leb m 2) (by rw [x.pb_ino k hk64,hm,Yf]);clear hk hk64 hm hm256
      go_wp2_with (first
        | (go_at_call 130;refine (HNM.out _).mono ?_;rintro e w5 ⟨A5,c5,rfl,ho5,hb5⟩;have HR5:=Za (HR.out.kept hb5.out)
           have HO5:=Za (HO.out.kept hb5.out);have HB5:=Za (below_nxt hb5.out HB.out);clear hb5)
        | (at_builtin;(refine wpList_app _ rfl _ _ _ rfl 5 i U w.heap.size _ n _ rfl HO5.out.own A5 (leb m 2).length c5 (leb m 2) rfl rfl (Hol.own ho5.out) (by rw [leb_len];have:=HN.out;have:=HK.out;omega) HB5.out.size ?_)
           intro v6 w6 ho6 hg6 hat6;obtain ⟨A6,c6,rfl,HO6',HR6,HB6⟩:=Buf.app (n':=n+2) (l2:=leb m 2) (h:=HO5.out) (by rw [leb_len]) ho6 hg6 hat6 HR5.out HB5.out;have HO6:=Za (p:=Buf w w6 g2 A6 (n+2) c6 (lst (44+2*(k+1)) x.pb)) (by rw [HPB.out];exact HO6'.out);clear ho6 hg6 hat6 ho5 HO6'))
      go_roundw
      case rel=>exact ⟨k+1,n+2,A6,c6,by have:=HK.out;omega,by go_num,rfl,Za (by have:=HN.out;omega),HO6,HR6,HB6⟩
      case measure=>have:=HK.out;simp [intOf];omega
    · obtain rfl:k=64:=by omega
      obtain rfl:n=172:=by have:=HN.out;omega
      clear hk hk64
      go_wp2_with (first
        | (go_at_call 131;refine (packbits_any (some ⟨g2,323,none⟩) 64 64 8 (fun j=>x.o (j+1)) rfl (by omega) (Zj _) _ (Sup.hol_o HR.out)).mono ?_;rintro e w7 ⟨g7,rfl,hr7,hg7,hb7⟩;have HR7:=Za (HR.out.kept hb7.out)
           have HO7:=Za (HO.out.kept hb7.out);have HB7:=Za (below_nxt hb7.out HB.out);clear hg7 hb7 HO)
        | (at_builtin;(refine wpList_app _ rfl _ _ _ rfl 5 i U w.heap.size _ 172 _ rfl HO7.out.own (some ⟨g7,0,none⟩) 8 8 (lst 8 (bt fun j=>x.o (j+1))) rfl (by rw [lst_len]) hr7.out.hol (by omega) HB7.out.size ?_)
           intro v8 w8 ho8 hg8 hat8;obtain ⟨A8,c8,rfl,HO8',HR8,HB8⟩:=Buf.app (n':=180) (h:=HO7.out) rfl ho8 hg8 hat8 HR7.out HB7.out;have HO8:=Za (p:=Buf w w8 g2 A8 180 c8 (lst 180 x.pb)) (by rw [x.pb_orp];exact HO8'.out)
           obtain ⟨g8,rfl⟩:∃ g8,A8=some ⟨g8,0,none⟩:=by
             rcases HO8.out.own.2 with ⟨_,e⟩ | ⟨g',cap',cur,hv,_⟩
             · cases e
             · injection hv with hv
               exact ⟨g',hv⟩
           clear ho8 hg8 hat8 hr7 HO8' HO7)
        | (at_builtin;(refine wpList_zeros rfl _ _ 23 3 rfl 5 i U Tryz.underlying3 w.heap.size g8 180 76 c8 _ rfl rfl HO8.out.own (by omega) (by omega) HB8.out.size ?_)
           intro g9 c9 w9 ho9 hg9;have HO9:=Za (p:=w9.ownsRow w.heap.size 5 1 (.slice (some ⟨g9,0,none⟩) 256 c9) 256 (bc (lst 256 x.pb))) (by rw [x.pb_rest,bc_app,show bc (List.replicate 76 0)=List.replicate 76 (Value.int .u8 0) from by simp [bc]];exact ho9);have HB9:=Za (p:=Below w.heap.size w w9) (HB8.out.grown hg9 HB8.out.size (fun q hq=>(HO8.out.own.lt q hq).1));clear ho9 hg9))
      go_ret2;exact ⟨g9,c9,rfl,HO9,HB9⟩
/- The reference's numbers as bytes:what each call leaves. Conditions:those named. -/
/- Numbers put behind bytes by the reference,under names. Conditions:those named. -/
/- The reference's answer:whether a super may be,and its block. No conditions but those named. -/
/- The reference's answer:a super's block. No conditions but those named. -/
def Sup.o' (x:Sup) (k:Nat):Bool:=x.o (k+1)
/- Cursors of package wire:what each call leaves,for every argument (bytes of at most 2^46). No other conditions. -/
def RowB (w:World) (A:Option Addr) (l:List UInt8):Prop:=
  l=[]∨∃ h off cur,A=some ⟨h,off,none⟩∧w.heap[h]?=some (.cells cur 5 (0,0))∧∀ j x,l[j]?=some x→cur[off+j]?=some (.int .u8 (x.toNat:Int))
theorem RowB.hol {w:World} {A:Option Addr} {l:List UInt8} (h:RowB w A l):Hol w A l:=by
  rcases h with rfl | ⟨h,off,cur,rfl,hh,hc⟩
  · exact .inl rfl
  · exact .inr ⟨h,off,rfl,fun j x hx=>by rw [cell_of_row w h (off+j) cur _ _ hh];exact hc j x hx⟩
theorem RowB.take_ {w:World} {A:Option Addr} {l:List UInt8} (h:RowB w A l) (n:Nat):RowB w A (l.take n):=by
  rcases h with rfl | ⟨h,off,cur,rfl,hh,hc⟩
  · exact .inl (by simp)
  · refine .inr ⟨h,off,cur,rfl,hh,fun j x hx=>hc j x ?_⟩;rw [List.getElem?_take] at hx
    split at hx
    · exact hx
    · cases hx
theorem RowB.drop_ {w:World} {h off:Nat} {l:List UInt8} (hr:RowB w (some ⟨h,off,none⟩) l) (n:Nat):RowB w (some ⟨h,off+n,none⟩) (l.drop n):=by
  rcases hr with rfl | ⟨h',off',cur,e,hh,hc⟩
  · exact .inl (by simp)
  · injection e with e
    injection e with e1 e2
    subst e1 e2;refine .inr ⟨h,off+n,cur,rfl,hh,fun j x hx=>?_⟩;rw [List.getElem?_drop] at hx;rw [Nat.add_assoc];exact hc (n+j) x hx
theorem RowB.grown {w w':World} {A:Option Addr} {l:List UInt8} (h:RowB w A l) {row:Option Nat} (hg:w.grownBy w' row) (hr:∀ b off,A=some ⟨b,off,none⟩→l≠[]→some b≠row):RowB w' A l:=by
  by_cases hl:l=[]
  · exact .inl hl
  · rcases h with h | ⟨h,off,cur,rfl,hh,hc⟩
    · exact absurd h hl
    · exact .inr ⟨h,off,cur,rfl,(hg.block h (Array.getElem?_eq_some_iff.1 hh).1 (hr h off rfl hl)).trans hh,hc⟩
theorem RowB.own {w:World} {base n c:Nat} {A:Option Addr} {l:List UInt8} (h:w.ownsRow base 5 1 (.slice A n c) n (bc l)):RowB w A l:=by
  by_cases hl:l=[]
  · exact .inl hl
  · have hn:n=l.length:=(own_form h).1;rcases h.2 with ⟨h1,h2⟩ | ⟨g,cap,cur,h1,hb,hg,hn',hc,hs,ht⟩
    · exact absurd (Zk (by omega)) hl
    · simp only [Value.slice.injEq] at h1;obtain ⟨rfl,_,rfl⟩:=h1;refine .inr ⟨g,0,cur,rfl,hg,fun j x hx=>?_⟩;have hj:=get_bc hx;rw [← ht,List.getElem?_take] at hj
      split at hj
      · simpa using hj
      · cases hj
def Cur (w:World) (g:Nat) (l:List UInt8) (bad:Bool):Prop:=
  ∃ A c,w.heap[g]?=some (.cells #[.slice A l.length c,.bool bad] 169 (0,0))∧l.length≤c∧c≤maxLen∧RowB w A l∧∀ q o,A=some ⟨q,o,none⟩→q<g
theorem RowB.apart {w:World} {g:Nat} {cs:Array Value} (hg:w.heap[g]?=some (.cells cs 169 (0,0))) {A:Option Addr} {l:List UInt8} (h:RowB w A l):
    ∀ b off,A=some ⟨b,off,none⟩→l≠[]→some b≠some g:=by
  intro b off hA hl e;injection e with e
  subst e;rcases h with h | ⟨h,off',cur,e,hh,_⟩
  · exact absurd h hl
  · rw [hA] at e;injection e with e
    injection e with e1 e2
    subst e1;rw [hg] at hh;injection hh with hh
    injection hh with _ ht
    exact absurd ht (by decide)
theorem Cur.lt {w:World} {g:Nat} {l:List UInt8} {bad:Bool} (h:Cur w g l bad):g<w.heap.size:=by
  obtain ⟨A,c,hg,_⟩:=h;exact (Array.getElem?_eq_some_iff.1 hg).1
theorem Cur.grown {w w':World} {g:Nat} {l:List UInt8} {bad:Bool} (h:Cur w g l bad) {row:Option Nat} (hg:w.grownBy w' row) (hne:some g≠row)
    (hrow:∀ k,row=some k→∀ cs,w.heap[k]?≠some (.cells cs 5 (0,0))):Cur w' g l bad:=by
  obtain ⟨A,c,hh,h1,h2,h3,h4⟩:=h;refine ⟨A,c,(hg.block g (Array.getElem?_eq_some_iff.1 hh).1 hne).trans hh,h1,h2,h3.grown hg ?_,h4⟩;intro b off hA hl e;rcases h3 with h | ⟨h,off',cur,e',hh',_⟩
  · exact hl h
  · rw [hA] at e';injection e' with e'
    injection e' with e1 e2
    subst e1;exact hrow b e.symm cur hh'
theorem Cur.below {w w':World} {g:Nat} {l:List UInt8} {bad:Bool} (h:Cur w g l bad) (hb:Below w.heap.size w w'):Cur w' g l bad:=
  h.grown (row:=none) (grown_of_below hb) (by simp) (by intro k hk;cases hk)
theorem grown_two (w:World) (g:Nat) (a b:Value):w.grownBy ((w.setCell ⟨g,0,none⟩ a).setCell ⟨g,1,none⟩ b) (some g):=
  grown_trans (grown_set w ⟨g,0,none⟩ a) (grown_set _ ⟨g,1,none⟩ b)
theorem cur_set {w:World} {g:Nat} {a b:Value} (hg:w.heap[g]?=some (.cells #[a,b] 169 (0,0))) (A:Option Addr) (n c:Nat) (l:List UInt8) (bad:Bool) (hn:n=l.length) (h1:l.length≤c) (h2:c≤maxLen) (hr:RowB w A l) (hq:∀ q o,A=some ⟨q,o,none⟩→q<g):
    Cur ((w.setCell ⟨g,0,none⟩ (.slice A n c)).setCell ⟨g,1,none⟩ (.bool bad)) g l bad:=by
  subst hn;refine ⟨A,c,?_,h1,h2,hr.grown (grown_two w g _ _) (RowB.apart hg hr),hq⟩;rw [heap_set (heap_set hg 0 _) 1 _];rfl
theorem cur_set1 {w:World} {g:Nat} {a:Value} {bad:Bool} (hg:w.heap[g]?=some (.cells #[a,.bool bad] 169 (0,0))) (A:Option Addr) (n c:Nat) (l:List UInt8) (hn:n=l.length) (h1:l.length≤c) (h2:c≤maxLen) (hr:RowB w A l) (hq:∀ q o,A=some ⟨q,o,none⟩→q<g):
    Cur (w.setCell ⟨g,0,none⟩ (.slice A n c)) g l bad:=by
  subst hn;refine ⟨A,c,?_,h1,h2,hr.grown (grown_set w ⟨g,0,none⟩ _) (RowB.apart hg hr),hq⟩;rw [heap_set hg 0 _];rfl
theorem cleft_any (g:Nat) (l:List UInt8) (bad:Bool) (w:World) (hc:Cur w g l bad):
    Calls Tryz.prog 133 #[.pointer (some ⟨g,0,none⟩)] w fun e w'=>e=.returned (.int .i64 l.length)∧w=w':=by
  obtain ⟨A,c,hg,h1,h2,_⟩:=hc;have hc0:w.cell? ⟨g,0,none⟩=some (.slice A l.length c):=by rw [cell_of_row w g 0 _ _ _ hg];rfl
  go_enter Tryz.func133,Tryz.ntmps133;go_wp2;go_ret;exact ⟨rfl,rfl⟩
theorem left_nil (w:World):Calls Tryz.prog 133 #[.pointer none] w fun e w'=>e=.returned (.int .i64 0)∧w=w':=by
  go_enter Tryz.func133,Tryz.ntmps133;go_wp2;go_ret;exact ⟨rfl,rfl⟩
theorem spoil_nil (w:World):Calls Tryz.prog 112 #[.pointer none] w fun e w'=>e=.returned (.tuple #[])∧w=w':=by
  go_enter Tryz.func112,Tryz.ntmps112;go_wp2;go_end0;exact ⟨rfl,rfl⟩
theorem spoil_any (g:Nat) (l:List UInt8) (bad:Bool) (w:World) (hc:Cur w g l bad):
    Calls Tryz.prog 112 #[.pointer (some ⟨g,0,none⟩)] w fun e w'=>e=.returned (.tuple #[])∧Cur w' g [] true∧w.grownBy w' (some g):=by
  obtain ⟨A,c,hg,h1,h2,_⟩:=hc;have hc0:w.cell? ⟨g,0,none⟩=some (.slice A l.length c):=by rw [cell_of_row w g 0 _ _ _ hg];rfl
  have hc1:w.cell? ⟨g,1,none⟩=some (.bool bad):=by rw [cell_of_row w g 1 _ _ _ hg];rfl
  have hf0:w.frozen? ⟨g,0,none⟩=false:=by simp [World.frozen?,hg]
  have hf1:w.frozen? ⟨g,1,none⟩=false:=by simp [World.frozen?,hg]
  go_enter Tryz.func112,Tryz.ntmps112;go_wp2;go_end0;exact ⟨rfl,cur_set hg none 0 0 [] true rfl (Zj _) (by decide) (.inl rfl) (fun q o e=>by cases e),grown_two w g _ _⟩
theorem next_nil (n:Int) (w:World):Calls Tryz.prog 113 #[.pointer none,.int .i64 n] w fun e w'=>e=.returned (.slice none 0 0)∧w=w':=by
  by_cases h0:n<0
  · go_enter Tryz.func113,Tryz.ntmps113;go_wp2_with (go_at_call 112;refine (spoil_nil _).mono ?_;rintro e w' ⟨rfl,rfl⟩);go_ret;exact ⟨rfl,rfl⟩
  by_cases h1:0<n
  · have hd:decide (n<0)=false:=by simpa using h0
    go_enter Tryz.func113,Tryz.ntmps113
    go_wp2_with (first
      | (go_at_call 112;refine (spoil_nil _).mono ?_;rintro e w' ⟨rfl,rfl⟩)
      | (go_at_call 133;refine (left_nil _).mono ?_;rintro e w' ⟨rfl,rfl⟩))
    go_ret;exact ⟨rfl,rfl⟩
  obtain rfl:n=0:=by omega
  go_enter Tryz.func113,Tryz.ntmps113;go_wp2_with (go_at_call 133;refine (left_nil _).mono ?_;rintro e w' ⟨rfl,rfl⟩);go_ret;exact ⟨rfl,rfl⟩
def NextPost (w:World) (g:Nat) (r:List UInt8 × List UInt8 × Bool) (e:Ending) (w':World):Prop:=
  ∃ A c,e=.returned (.slice A r.1.length c)∧r.1.length≤c∧c≤maxLen∧Hol w' A r.1∧Cur w' g r.2.1 r.2.2∧w.grownBy w' (some g)
theorem next_any (g:Nat) (l:List UInt8) (bad:Bool) (n:Int) (w:World) (hc:Cur w g l bad) (hl:l.length≤140737488355328):
    Calls Tryz.prog 113 #[.pointer (some ⟨g,0,none⟩),.int .i64 n] w (NextPost w g (nxt n l bad)):=by
  by_cases h0:n<0
  · have hnx:nxt n l bad=([],[],true):=by unfold nxt;rw [if_pos (.inl h0)]
    rw [hnx];go_enter Tryz.func113,Tryz.ntmps113;go_wp2_with (go_at_call 112;refine (spoil_any g l bad _ hc).mono ?_;rintro e w' ⟨rfl,hc',hg'⟩);go_ret;exact ⟨none,0,rfl,Zj _,by decide,.inl rfl,hc',hg'⟩
  have hd:decide (n<0)=false:=by simpa using h0
  by_cases h1:(l.length:Int)<n
  · have hnx:nxt n l bad=([],[],true):=by unfold nxt;rw [if_pos (.inr h1)]
    rw [hnx];go_enter Tryz.func113,Tryz.ntmps113
    go_wp2_with (first
      | (go_at_call 112;refine (spoil_any g l bad _ hc).mono ?_;rintro e w' ⟨rfl,hc',hg'⟩)
      | (go_at_call 133;refine (cleft_any g l bad _ hc).mono ?_;rintro e w' ⟨rfl,rfl⟩))
    go_ret;exact ⟨none,0,rfl,Zj _,by decide,.inl rfl,hc',hg'⟩
  have hnx:nxt n l bad=(l.take n.toNat,l.drop n.toNat,bad):=by unfold nxt;rw [if_neg (by omega)]
  rw [hnx];by_cases h2:n=0
  · subst h2;go_enter Tryz.func113,Tryz.ntmps113;go_wp2_with (go_at_call 133;refine (cleft_any g l bad _ hc).mono ?_;rintro e w' ⟨rfl,rfl⟩);go_ret;exact ⟨none,0,rfl,Zj _,by decide,.inl rfl,hc,⟨rfl,rfl,rfl,Zj _,fun _ _ _=>rfl⟩⟩
  obtain ⟨m,rfl⟩:=Int.eq_ofNat_of_zero_le (by omega:0≤n);have hm:0<m∧m≤l.length:=by omega
  have hne:l≠[]:=by intro e;subst e;simp at hm;omega
  obtain ⟨A,c,hg,hl1,hl2,hrow,hqg⟩:=id hc
  obtain ⟨q,off,rfl⟩:∃ q off,A=some ⟨q,off,none⟩:=by
    rcases hrow with e | ⟨q,off,cur,e,_⟩
    · exact absurd e hne
    · exact ⟨q,off,e⟩
  have hc0:w.cell? ⟨g,0,none⟩=some (.slice (some ⟨q,off,none⟩) l.length c):=by rw [cell_of_row w g 0 _ _ _ hg];rfl
  have hf0:w.frozen? ⟨g,0,none⟩=false:=by simp [World.frozen?,hg]
  have hb0:((m:Int)==0)=false:=by simp;omega
  have hm1:(m:Int)≤l.length:=by omega
  have hcm:(l.length:Int)≤c:=by omega
  have hc63:(c:Int)≤9223372036854775807:=by unfold maxLen at hl2;omega
  rw [Yf];clear hnx h0 h1 h2 hne;go_enter Tryz.func113,Tryz.ntmps113;go_wp2_with (go_at_call 133;refine (cleft_any g l bad _ hc).mono ?_;rintro e w' ⟨rfl,rfl⟩)
  · go_ret;have hlm:l.length=m:=by omega
    have e0:l.drop m=[]:=List.drop_eq_nil_of_le (by omega);have e1:l.take m=l:=Zz (by omega);rw [e0,e1];exact ⟨some ⟨q,off,none⟩,m,by rw [hlm];rfl,by show l.length≤m;omega,by omega,(hrow.hol).grown (grown_set w ⟨g,0,none⟩ _) (fun b o e=>RowB.apart hg hrow b o e (by intro e;subst e;simp at hm;omega)),cur_set1 hg _ _ 0 [] (by simp;omega) (by simp) (by decide) (.inl rfl) hqg,grown_set w ⟨g,0,none⟩ _⟩
  · go_ret;have e1:(l.take m).length=m:=by simp;omega
    exact ⟨some ⟨q,off,none⟩,c,by rw [e1];rfl,by show (l.take m).length≤c;omega,hl2,(hrow.hol.take_ m).grown (grown_set w ⟨g,0,none⟩ _) (fun b o e=>RowB.apart hg hrow b o e (by intro e;subst e;simp at hm;omega)),
      cur_set1 hg _ _ (c - m) (l.drop m) (by simp) (by simp;omega) (by omega) (hrow.drop_ m) (fun q2 o2 e=>by injection e with e;injection e with e1 e2;subst e1;exact hqg _ _ rfl),grown_set w ⟨g,0,none⟩ _⟩
theorem take_nil (n:Int) (w:World):Calls Tryz.prog 102 #[.pointer none,.int .i64 n] w fun e w'=>∃ A c,e=.returned (.slice A 0 c)∧Below w.heap.size w w':=by
  obtain ⟨i,U⟩:=u8_table;go_enter Tryz.func102,Tryz.ntmps102
  go_wp2_with (first
    | (go_at_call 113;refine (next_nil _ _).mono ?_;rintro e w' ⟨rfl,rfl⟩)
    | (at_builtin
       refine wpList_app _ rfl _ _ _ rfl 5 i U w.heap.size (.slice none 0 0) 0 [] rfl (Ye _ _ _ _) none 0 0 [] rfl rfl (.inl rfl) (by omega) (Zj _) ?_;intro v2 w2 hown2 hg2 hat2))
  go_ret;obtain ⟨A,c,rfl,_⟩:=(own_form (l:=[]) hown2).2;exact ⟨A,c,rfl,below_of_grown hg2⟩
def TakePost (w:World) (g:Nat) (r:List UInt8 × List UInt8 × Bool) (e:Ending) (w':World):Prop:=
  ∃ v,e=.returned v∧w'.ownsRow w.heap.size 5 1 v r.1.length (bc r.1)∧Cur w' g r.2.1 r.2.2∧w.grownBy w' (some g)
theorem next_of (g:Nat) (l:List UInt8) (bad:Bool) (n:Int) (w:World) (hc:Cur w g l bad) (hl:l.length≤70368744177664) (r:List UInt8 × List UInt8 × Bool) (hr:nxt n l bad=r):
    Calls Tryz.prog 113 #[.pointer (some ⟨g,0,none⟩),.int .i64 n] w (NextPost w g r):=by
  subst hr;exact next_any g l bad n w hc (by omega)
theorem take_any (g:Nat) (l:List UInt8) (bad:Bool) (n:Int) (w:World) (hc:Cur w g l bad) (hl:l.length≤70368744177664):
    Calls Tryz.prog 102 #[.pointer (some ⟨g,0,none⟩),.int .i64 n] w (TakePost w g (nxt n l bad)):=by
  obtain ⟨i,U⟩:=u8_table;have hle:=(nxt_le n l bad).1;generalize hr:nxt n l bad=r at hle ⊢;have cN:=next_of g l bad n w hc hl r hr;clear hr;obtain ⟨out,rest,bd⟩:=r;replace hle:out.length≤l.length:=hle;go_enter Tryz.func102,Tryz.ntmps102
  go_wp2_with (first
    | (go_at_call 113;refine cN.mono ?_;rintro e w1 ⟨A,c,rfl,h1,h2,h3,h4,h5⟩)
    | (at_builtin;refine wpList_app _ rfl _ _ _ rfl 5 i U w.heap.size (.slice none 0 0) 0 [] rfl (Ye _ _ _ _) A out.length c out rfl rfl h3 (by omega) h5.size ?_;intro v2 w2 hown2 hg2 hat2))
  go_ret;refine ⟨v2,rfl,by simpa using hown2,h4.below (below_of_grown hg2),grown_trans h5 (grown_of_below ((below_of_grown hg2).mono (Zj _)))⟩
def NumPost (w:World) (g:Nat) (r:List UInt8 × List UInt8 × Bool) (e:Ending) (w':World):Prop:=
  e=.returned (.int .u64 (num r.1:Nat))∧Cur w' g r.2.1 r.2.2∧w.grownBy w' (some g)
theorem num_any (g:Nat) (l:List UInt8) (bad:Bool) (n:Int) (w:World) (hc:Cur w g l bad) (hl:l.length≤70368744177664):
    Calls Tryz.prog 74 #[.pointer (some ⟨g,0,none⟩),.int .i64 n] w (NumPost w g (nnx n l bad)):=by
  by_cases h:wid n=0
  · have hn:nnx n l bad=([],[],true):=by unfold nnx;rw [if_pos h]
    rw [hn];clear hn;go_enter Tryz.func74,Tryz.ntmps74
    go_wp2_with (first
      | (go_at_call 111;refine (width_any _ _).mono ?_;rintro e w' ⟨rfl,rfl⟩;rw [h])
      | (go_at_call 112;refine (spoil_any g l bad _ hc).mono ?_;rintro e w' ⟨rfl,hc',hg'⟩))
    go_ret;exact ⟨rfl,hc',hg'⟩
  · have hn:nnx n l bad=nxt n l bad:=by unfold nnx;rw [if_neg h]
    have hle:=nxt_one n l bad (by have:=wid_pos h;omega);have hlt:=num_lt (nxt n l bad).1;have h8:=(wid_pos h).2;rw [hn];generalize hr:nxt n l bad=r at hle hlt ⊢;have cN:=next_of g l bad n w hc hl r hr;clear hr hn;obtain ⟨out,rest,bd⟩:=r;replace hle:out.length≤8:=by have:out.length≤n.toNat:=hle;omega
    have hw0:((wid n:Int)==0)=false:=by simp;omega
    clear h hlt;go_enter Tryz.func74,Tryz.ntmps74
    go_wp2_with (first
      | (go_at_call 111;refine (width_any _ _).mono ?_;rintro e w' ⟨rfl,rfl⟩)
      | (go_at_call 113;refine cN.mono ?_;rintro e w1 ⟨A,c,rfl,h1,h2,h3,h4,h5⟩))
    replace h1:out.length≤c:=h1;replace h3:Hol w1 A out:=h3;go_loop [5,17] (fun v i=>∃ k:Nat,k≤out.length∧i=.int .i64 k∧v=.int .u64 (num (out.take k):Nat)) (fun _ i=>out.length - (intOf i).toNat)
    case atStart=>exact ⟨0,Nat.zero_le _,rfl,rfl⟩
    case round=>
      obtain ⟨k,hk,rfl,rfl⟩:=hrel;by_cases hlt:k<out.length
      · obtain ⟨q,off,rfl,_,hcell⟩:=h3.at_ hlt;obtain ⟨x,hx⟩:∃ x,out[k]=x:=⟨_,rfl⟩;rw [hx] at hcell;have hX:x.toNat<256:=x.toNat_lt;obtain ⟨N,hN⟩:∃ N,num (out.take k)=N:=⟨_,rfl⟩;rw [hN];have HX:=Za hx;have HN:=Za hN;clear hx hN;go_wp2;go_round
        case rel=>
          refine ⟨k+1,by omega,by go_num,?_⟩;have e1:out.take (k+1)=out.take k++[x]:=by rw [List.take_succ_eq_append_getElem hlt,HX.out]
          have e2:(out.take k).length=k:=by simp;omega
          have e3:=num_lt (out.take k);rw [e2,HN.out] at e3;rw [e1,num_app,e2,HN.out,or_join N x.toNat k e3 hX (by omega)]
        case measure=>simp [intOf];omega
      · go_wp2;go_ret;have e1:out.take k=out:=Zz (by omega);rw [e1];exact ⟨rfl,h4,h5⟩
theorem cur_new_any (A:Option Addr) (c:Nat) (l:List UInt8) (w:World) (hA:Hol w A l) (hb:l.length≤70368744177664):
    Calls Tryz.prog 73 #[.slice A l.length c] w fun e w'=>∃ g,e=.returned (.pointer (some ⟨g,0,none⟩))∧w.heap.size≤g∧Cur w' g l false∧Below w.heap.size w w':=by
  go_enter Tryz.func73,Tryz.ntmps73;go_wp2_with (go_at_call 110;refine (room_any A c l 0 w hA (by omega)).mono ?_;rintro e w1 ⟨v,rfl,hown1,hb1⟩;obtain ⟨_,A1,c1,rfl,h1,h2,h3⟩:=own_form hown1);go_ret;exact ⟨w1.heap.size,rfl,hb1.size,⟨A1,c1,heap_alloc_new w1 _,h1,h2,(RowB.own hown1).grown (World.grownBy_alloc w1 _ none) (by simp),fun q o e=>(hown1.lt q (by rw [e];rfl)).2⟩,hb1.alloc hb1.size _⟩
/- The number of the first bytes of some,by the reference:what the call leaves. Conditions:those named. -/
end Go.Proofs.YtijffkklhgnknaaGreatDoor
