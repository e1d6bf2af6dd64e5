/- The reference's functions on bytes, the rest: for every argument (bytes of at most 2^45). No other conditions. -/
import Derived.Test.YtijffkklhgnknaaGreatDoorAz
import Derived.Test.YtijffkklhgnknaaGreatDoorMgSc1
import Derived.Test.YtijffkklhgnknaaGreatDoorMgRd
import Derived.Test.YtijffkklhgnknaaGreatDoorMgQn
import Derived.Test.YtijffkklhgnknaaGreatDoorMgRa
import Derived.Test.YtijffkklhgnknaaGreatDoorMgRunesRef2
import Derived.Test.YtijffkklhgnknaaGreatDoorMgUb
set_option maxHeartbeats 20000000
set_option linter.unusedVariables false
namespace Go.Proofs.YtijffkklhgnknaaGreatDoor
open Go.RowKit
theorem rput_any (A:Option Addr) (c:Nat) (l:List UInt8) (size:Int) (x:Nat) (w:World) (hA:Hol w A l) (hx:x<18446744073709551616) (hl:l.length≤35184372088832):
    Calls Tryz.prog 84 #[.slice A l.length c,.int .i64 size,.int .u64 x] w (BytesPostD w (putRD l size x)):=by
  by_cases h:wid size=0
  · have hr:putRD l size x=([],201):=by unfold putRD;rw [if_pos h]
    rw [hr];exact (rput_arg _ size x w h).mono fun e w' ⟨he,hw⟩=>⟨_,he,Ye _ _ _ _,by rw [hw];exact Below.refl _ _⟩
  have hp:=wid_pos h;obtain ⟨k,rfl⟩:=Int.eq_ofNat_of_zero_le (by omega:0≤size);have hr:putRD l (k:Int) x=(if x / 256 ^ k≠0 then ([],202) else (l++leb x k,0)):=by unfold putRD;rw [if_neg h,Yf]
  rw [hr];refine rput_go A c l k x w hA hx hl (by omega) (by omega) ?_
  have hk:k=1∨k=2∨k=4∨k=8:=by
    unfold wid at h
    repeat' split at h
    all_goals omega
  rcases hk with rfl | rfl | rfl | rfl
  · exact .inl rfl
  · exact .inr (.inl ⟨rfl,rfl⟩)
  · exact .inr (.inr (.inl ⟨rfl,rfl,rfl⟩))
  · exact .inr (.inr (.inr ⟨rfl,rfl,rfl,rfl⟩))
theorem put2_of (l:List UInt8) (n:Nat):putRD l 2 n=if 65535<n then ([],202) else (l++leb n 2,0):=by
  unfold putRD;rw [if_neg (by decide)];by_cases h:65535<n
  · rw [if_pos h,if_pos];intro e;have:n / 65536=0:=e;omega
  · rw [if_neg h,if_neg]
    · rfl
    · intro e;apply e;show n / 65536=0;omega
theorem rtxt_any (A:Option Addr) (c:Nat) (l:List UInt8) (s:ByteArray) (w:World) (hA:Hol w A l) (hl:l.length≤35184372088832) (hs:s.size≤9223372036854775807):
    Calls Tryz.prog 85 #[.slice A l.length c,.string s] w (BytesPostD w (txtR l s.data.toList)):=by
  have hsz:s.data.toList.length=s.size:=by rw [Array.length_toList];rfl
  have cP:=rput_any A c l 2 s.size w hA (by omega) hl;rw [put2_of] at cP;by_cases h:65535<s.size
  · have hr:txtR l s.data.toList=([],202):=by unfold txtR;rw [hsz,if_pos h]
    rw [hr];rw [if_pos h] at cP;clear hr hsz h;have CP:=Za cP;clear cP;go_enter Tryz.func85,Tryz.ntmps85;go_wp2_with (go_at_call 84;refine CP.out.mono ?_;rintro e w1 ⟨v,rfl,hown1,hb1⟩);go_ret2;exact ⟨_,rfl,Ye _ _ _ _,hb1⟩
  · have hr:txtR l s.data.toList=(l++leb s.size 2++s.data.toList,0):=by unfold txtR;rw [hsz,if_neg h]
    rw [hr];rw [if_neg h] at cP;obtain ⟨i,U⟩:=u8_tableD;have HS:=Za hsz;have hz2:s.size≤65535:=by omega
    clear hr hsz h;have CP:=Za cP;clear cP;have hlen:(l++leb s.size 2).length=l.length+2:=by rw [Zf,leb_len]
    have HL:=Za hlen;clear hlen;go_enter Tryz.func85,Tryz.ntmps85
    go_wp2_with (first
      | (go_at_call 84;refine CP.out.mono ?_;rintro e w1 ⟨v,rfl,hown1,hb1⟩)
      | (at_builtin;refine Lib.wpList_append_own_string _ rfl _ _ 23 9 rfl w.heap.size 5 i U.ht Tryz.underlying9 U.hi U.hz U.h1 U.h2 v _ _ rfl hown1 s rfl (by show (l++leb s.size 2).length+s.size≤maxLen;rw [HL.out];unfold maxLen;omega) (by show (l++leb s.size 2).length+s.size≤140737488355328;rw [HL.out];omega) hb1.size ?_;intro v3 w3 hown3 hg3 _))
    go_ret2;refine ⟨v3,rfl,?_,hb1.grown hg3 hb1.size (fun k hk=>(hown1.lt k hk).1)⟩;show w3.ownsRow _ _ _ _ (l++leb s.size 2++s.data.toList).length (bc (l++leb s.size 2++s.data.toList));rw [Zf,HS.out,bc_app];exact hown3
theorem num_drop (l:List UInt8) (j:Nat) (h:j<l.length):num (l.drop j)=(l[j]).toNat+256*num (l.drop (j+1)):=by
  rw [List.drop_eq_getElem_cons h];rfl
/- The reference's Bytes of an entry. Conditions:the entry's numbers have their room. -/
set_option maxRecDepth 20000
theorem info_b1D:(Tryz.prog.info? 5).map (·.size)=some 1:=by kernel_rfl
theorem zero_u8D (w:World):(zeroValue 5).run Tryz.prog w=.ok (.int .u8 0) w:=by kernel_rfl
theorem run_bsv2 {P:Program} (t e:TypeId) (hu:P.underlying t=some (.slice e)) (hs:(P.info? e).map (·.size)=some 1) (z:Value) (hz:∀ w,(zeroValue e).run P w=.ok z w) (u v:Value) (hu1:u.cells=#[u]) (hv:v.cells=#[v]) (w:World):
    (Instr.buildSlice t 2 #[(0,u),(1,v)]).run P w=.ok (.slice (some ⟨w.heap.size,0,none⟩) 2 2) (w.alloc (.cells [u,v].toArray e)):=by
  have hfill:∀ zs:Array Value,zs.size=2→Instr.fill (fun i=>some (i*1,1)) zs [(0,u),(1,v)]=some [u,v].toArray:=fun zs hzs=>by
    have hz2:zs.toList=zs.toList.take 1++zs.toList.drop 1:=(List.take_append_drop 1 _).symm;have hl1:(zs.toList.take 1).length=1:=by rw [Zu];simp;omega
    have hl2:(zs.toList.drop 1).length=1:=by rw [Zs];simp;omega
    have h1:=fill_partD (place:=fun i=>some (i*1,1)) (A:=[]) (old:=zs.toList.take 1) (B:=zs.toList.drop 1) (vs:=[u]) (i:=0) (off:=0) (n:=1) (v:=u) (rest:=[(1,v)]) (by simp) (by simpa using hu1) rfl rfl hl1;have h2:=fill_partD (place:=fun i=>some (i*1,1)) (A:=[u]) (old:=zs.toList.drop 1) (B:=[]) (vs:=[v]) (i:=1) (off:=1) (n:=1) (v:=v) (rest:=[]) (by simp) (by simpa using hv) rfl rfl hl2;simp only [Zy,Zt] at h1 h2;rw [← hz2,Array.toArray_toList] at h1;rw [h1,h2];rfl
  cases hq:P.info? e with
  | none=>simp [hq] at hs
  | some i=>
    have hi:i.size=1:=by simpa [hq] using hs
    have hf:=hfill ((Array.range (2*1)).map (z.cells[· % z.cells.size]!)) (by simp);have hsz:∀ w:World,(sizeOf e).run P w=.ok 1 w:=size_ofD hs;have h1:¬ (2 ^ 24<2*1):=by decide
    have h2:¬ 2*1=0:=by decide
    clear hq hi;unfold Instr.buildSlice;simp only [Sem.run_bind,run_underlying hu,Zw,hsz,gt_iff_lt,h1,if_false,h2,Sem.run_pure,hz,Sem.run_ite];rw [hf];simp [newRow,go_sem]
theorem step_bsv2 {P:Program} {ops:Array Oper} {rest:List Oper} {o:Oper} {a:Act} {w:World} {Q:Exit→Act→World→Prop} (hgd:o.guard=none) (t e:TypeId) (x y:Operand) (ho:o.op=.buildSlice t 2 #[(0,x),(1,y)]) (hu:P.underlying t=some (.slice e)) (hs:(P.info? e).map (·.size)=some 1) (z:Value) (hz:∀ w,(zeroValue e).run P w=.ok z w) (u v:Value) (hu1:u.cells=#[u]) (hv:v.cells=#[v]) (hx:a.eval x=u) (hy:a.eval y=v)
    (h:∀ g w',Row w' g e [u,v]→Hid (g=w.heap.size)→Below w.heap.size w w'→wpList P ops Q rest (a.put o.dst (.slice (some ⟨g,0,none⟩) 2 2)) w'):wpList P ops Q (o::rest) a w:=by
  refine wpList_plain hgd fun K hK=>?_;have hr:=run_bsv2 t e hu hs z hz u v hu1 hv w;unfold Oper.wp execOp;simp only [ho,hx,hy,List.map_toArray,List.map_cons,List.map_nil,Sem.run_bind,hr,Zw];exact hK _ _ (h _ _ (Row.made w e [u,v]) (show _=_ from rfl) ((Below.refl _ _).alloc (Zj _) _))
theorem leb_one (i:Nat):leb i 1=[UInt8.ofNat i]:=by simp [leb]
theorem u8_nat2 (i:Nat) (h:i<256):((UInt8.ofNat i).toNat:Int)=(i:Int):=by
  rw [UInt8.toNat_ofNat'];omega
theorem wrap_u8n (i:Nat) (h:i<256):IntKind.u8.wrap (i:Int)=(i:Int):=by
  simp [IntKind.wrap,IntKind.bits,IntKind.signed];omega
theorem rpack_any (x:Ent) (i k s:Nat) (hn:Nice x i k s) (w:World):Calls Tryz.prog 42 #[.agg (ecs x).toArray] w (ByP w (16+s) (enb x)):=by
  obtain ⟨hi,hk,hil,hkl,hser,hck,hnm,hsl⟩:=hn;obtain ⟨l2,h2⟩:∃ l,leb i 1++leb k 1=l:=⟨_,rfl⟩;obtain ⟨l3,h3⟩:∃ l,l2++leb x.ser 8=l:=⟨_,rfl⟩;obtain ⟨l4,h4⟩:∃ l,l3++leb x.ck 4=l:=⟨_,rfl⟩;have q2:l2.length=2:=by rw [← h2];simp [leb_len]
  have q3:l3.length=10:=by rw [← h3];simp [leb_len,q2]
  have q4:l4.length=14:=by rw [← h4];simp [leb_len,q3]
  have h5:enb x=l4++leb s 2++x.nm.data.toList:=by
    rw [← h4, ← h3, ← h2];unfold enb;rw [hi,hk,hnm,Yf,Yf]
  rw [h5];have hsz:x.nm.size=s:=by rw [← hnm,Array.length_toList];rfl
  have N2:=Za (p:=∀ (w:World) (g:Nat),Row w g 5 [.int .u8 (i:Int),.int .u8 (k:Int)]→Hol w (some ⟨g,0,none⟩) l2) (fun w g h=>by
    rw [← h2,leb_one,leb_one];refine .inr ⟨g,0,rfl,fun j y hy=>?_⟩;rw [Nat.zero_add,h.cell];rcases j with _ | _ | j
    · simp at hy;subst hy;rw [u8_nat2 i hil];rfl
    · simp at hy;subst hy;rw [u8_nat2 k hkl];rfl
    · simp at hy)
  have put:∀ (l:List UInt8) (q:Nat) (z:Nat) (v:Nat),l.length=q→(z=1∨z=2∨z=4∨z=8)→v<256 ^ z→v<18446744073709551616→q≤1000→∀ (A:Option Addr) (c:Nat) (w:World),Hol w A l→Calls Tryz.prog 84 #[.slice A q c,.int .i64 (z:Int),.int .u64 (v:Int)] w fun e w'=>∃ A' c',e=.returned (.tuple #[.slice A' (q+z) c',.int .i64 0])∧w'.ownsRow w.heap.size 5 1 (.slice A' (q+z) c') (q+z) (bc (l++leb v z))∧Below w.heap.size w w':=fun l q z v hl hz hv hv2 hq A c w hA=>by
    have h:=rput_any A c l (z:Int) v w hA hv2 (by omega);rw [putR_ok l z v hz hv,hl] at h;refine h.mono ?_;rintro e w' ⟨u,rfl,ho,hb⟩;have ho2:=ho
    dsimp only at ho2;rw [Zf,leb_len,hl] at ho2;obtain ⟨A1,c1,rfl⟩:=own8_sl ho2;exact ⟨A1,c1,rfl,ho2,hb⟩
  have N3:=Za (fun A c w hA=>put l2 2 8 x.ser q2 (.inr (.inr (.inr rfl))) (by omega) (by omega) (by omega) A c w hA);rw [h3] at N3;have N4:=Za (fun A c w hA=>put l3 10 4 x.ck q3 (.inr (.inr (.inl rfl))) (by omega) (by omega) (by omega) A c w hA);rw [h4] at N4
  have N5:=Za (p:=∀ (A:Option Addr) (c:Nat) w (hA:Hol w A l4),Calls Tryz.prog 85 #[.slice A 14 c,.string x.nm] w fun e w'=>∃ A' c',e=.returned (.tuple #[.slice A' (16+s) c',.int .i64 0])∧w'.ownsRow w.heap.size 5 1 (.slice A' (16+s) c') (16+s) (bc (l4++leb s 2++x.nm.data.toList))∧Below w.heap.size w w') (fun A c w hA=>by
    have h:=rtxt_any A c l4 x.nm w hA (by omega) (by omega);have hr:txtR l4 x.nm.data.toList=(l4++leb s 2++x.nm.data.toList,0):=by unfold txtR;rw [hnm,if_neg (by omega)]
    rw [hr,q4] at h;refine h.mono ?_;rintro e w' ⟨v,rfl,ho,hb⟩
    dsimp only at ho;rw [show (l4++leb s 2++x.nm.data.toList).length=16+s by simp [leb_len,q4,hnm];omega] at ho;obtain ⟨A1,c1,rfl⟩:=own8_sl ho;exact ⟨A1,c1,rfl,ho,hb⟩)
  have HC:=Za (p:=∀ (w:World) (g:Nat),Row w g 61 (ecs x)→w.cell? ⟨g,0,none⟩=some (.string x.nm)∧w.cell? ⟨g,1,none⟩=some (.int .i64 (i:Int))∧w.cell? ⟨g,2,none⟩=some (.int .u64 (x.ser:Int))∧w.cell? ⟨g,3,none⟩=some (.int .i64 (k:Int))∧w.cell? ⟨g,4,none⟩=some (.int .u32 (x.ck:Int))) (fun w g h=>⟨by rw [h.cell];rfl,by rw [h.cell, ← hi];rfl,by rw [h.cell];rfl,by rw [h.cell, ← hk];rfl,by rw [h.cell];rfl⟩);have u1:=wrap_u8n i hil;have u2:=wrap_u8n k hkl;have u3:=u64_nat x.ck (by omega);obtain ⟨nm,hnm2⟩:∃ b,x.nm=b:=⟨_,rfl⟩;obtain ⟨ser,hser2⟩:∃ b,x.ser=b:=⟨_,rfl⟩;obtain ⟨ck,hck2⟩:∃ b,x.ck=b:=⟨_,rfl⟩;obtain ⟨l5,hl5⟩:∃ l,l4++leb s 2++x.nm.data.toList=l:=⟨_,rfl⟩;rw [hl5] at N5 ⊢;rw [hnm2,hser2,hck2] at HC;rw [hnm2] at N5;rw [hser2] at N3;rw [hck2] at N4 u3;clear hi hk hil hkl hser hck hnm hsl h2 h3 h4 h5 q2 q3 q4 hsz hl5 hnm2 hser2 hck2 put;go_enter Tryz.func42,Tryz.ntmps42
  go_wp2_with (first
    | (refine step_box rfl 1 rfl 61 (.tmp 0) rfl (ecs x) rfl ?_;intro g w1 hr1 hg1 hb1 hs1;have R1:=Za hr1
       have B1:=Za hb1;obtain ⟨c0,c1,c2,c3,c4⟩:=HC.out w1 g hr1;clear hr1 hg1 hb1 hs1)
    | (refine step_bsv2 rfl 23 5 _ _ rfl Tryz.underlying23 info_b1D _ zero_u8D (.int .u8 (i:Int)) (.int .u8 (k:Int)) rfl rfl rfl rfl ?_;intro g2 w2 hr2 hg2 hb;have O2:=Za (N2.out _ _ hr2)
       have R2:=Za (R1.out.kept hb);have B2:=Za (below_nxt hb B1.out);obtain ⟨c0,c1,c2,c3,c4⟩:=HC.out w2 g R2.out;clear hr2 hg2 hb)
    | (go_at_call 84;refine (N3.out _ _ _ O2.out).mono ?_;rintro e w4 ⟨A3,d3,rfl,ho,hb⟩;have O3:=Za (Hol.own ho)
       have R4:=Za (R2.out.kept hb);have B4:=Za (below_nxt hb B2.out);obtain ⟨c0,c1,c2,c3,c4⟩:=HC.out w4 g R4.out;clear ho hb N3)
    | (go_at_call 84;refine (N4.out _ _ _ O3.out).mono ?_;rintro e w5 ⟨A4,d4,rfl,ho,hb⟩;have O4:=Za (Hol.own ho)
       have R5:=Za (R4.out.kept hb);have B5:=Za (below_nxt hb B4.out);obtain ⟨c0,c1,c2,c3,c4⟩:=HC.out w5 g R5.out;clear ho hb N4)
    | (go_at_call 85;refine (N5.out _ _ _ O4.out).mono ?_;rintro e w6 ⟨A5,d5,rfl,ho,hb⟩;have O5:=Za (own_lower ho B5.out.size)
       have B6:=Za (below_nxt hb B5.out);clear ho hb N5))
  go_ret;exact ⟨A5,d5,rfl,O5.out,B6.out⟩
/- Steps of a region that draws:a slice built,an append;an entry put in order. No conditions. -/
section
variable {P:Program} {ops:Array Oper} {o:Oper} {a:Act} {w:World} {Q:Exit→Act→World→Prop} {K:Act→World→Prop} {E:Prop}
theorem st_bs1 (hw:Region.wanted o (yielded ops a.tmps)=true) (t e:TypeId) (x:Operand) (ho:o.op=.buildSlice t 1 #[(0,x)]) (hu:P.underlying t=some (.slice e)) (k:Nat) (hs:(P.info? e).map (·.size)=some k) (hk:0<k∧k≤1000) (z:Value) (hz:∀ w,(zeroValue e).run P w=.ok z w) (cs:List Value) (hcs:cs.length=k) (hx:a.eval x=.agg cs.toArray)
    (h:∀ g w',Row w' g e cs→Hid (g=w.heap.size)→Below w.heap.size w w'→K (a.put o.dst (.slice (some ⟨g,0,none⟩) 1 1)) w'):if Region.wanted o (yielded ops a.tmps)=true then Oper.wp P o a w K Q else E:=by
  rw [if_pos hw];have hr:=run_bs1D t e hu k hs hk z hz cs hcs w;unfold Oper.wp execOp;simp only [ho,hx,List.map_toArray,List.map_cons,List.map_nil,Sem.run_bind,hr,Zw];exact h _ _ (Row.made w e cs) (show _=_ from rfl) ((Below.refl _ _).alloc (Zj _) _)
theorem st_join (hw:Region.wanted o (yielded ops a.tmps)=true) {t e:TypeId} {k:Nat} (s x:Operand)
    (ho:o.op=.call { callee:=.builtin .append,args:=#[s,x],argTypes:=#[t,t] }) (R:Rec P t e k) (base:Nat) (v:Value) (n:Nat) (xs:List Value) (hs:a.eval s=v) (hown:w.ownsRow base e k v n xs)
    (A:Option Addr) (m c:Nat) (ys:List Value) (hx:a.eval x=.slice A m c) (hys:ys.length=m*k) (hA:m=0∧A=none∨∃ ad,A=some ad∧∀ j u,ys[j]?=some u→w.cell? (ad.add j)=some u) (h1:∀ u ∈ ys,u.oneCell'=true) (hb:n+m≤1000001) (hbase:base≤w.heap.size)
    (h:∀ v' w',w'.ownsRow base e k v' (n+m) (xs++ys)→w.grownBy w' v.ownBlock→(v'.ownBlock=v.ownBlock∨v'.ownBlock=some w.heap.size)→K (a.put o.dst v') w'):
    if Region.wanted o (yielded ops a.tmps)=true then Oper.wp P o a w K Q else E:=by
  rw [if_pos hw];obtain ⟨v',w',hr,h2,h3,h4⟩:=run_join (P:=P) R o.type base v n xs hown A m c ys hys hA h1 hb hbase;unfold Oper.wp execOp;simp only [ho,resolve,invoke,builtin,Sem.run_bind,Sem.run_pure,Zw,List.map_toArray,List.map_cons,List.map_nil,hs,hx,hr];exact h v' w' h2 h3 h4
end
theorem own_row {w:World} {base g n k:Nat} {e:TypeId} {cs:List Value} (h:Row w g e cs) (hl:cs.length=n*k) (hb:base≤g) (hn:n≤maxLen):w.ownsRow base e k (.slice (some ⟨g,0,none⟩) n n) n cs:=
  ⟨hl,.inr ⟨g,n,_,rfl,hb,h.heap,Zj _,hn,by simp [hl],Zz (by simp [hl])⟩⟩
theorem Lies.take_ {w:World} {A:Option Addr} {X:List Ent} (h:Lies ecs 5 w A X) (n:Nat):Lies ecs 5 w A (X.take n):=by
  rcases h with rfl | ⟨g,o,rfl,h⟩
  · exact .inl (by simp)
  · refine .inr ⟨g,o,rfl,fun j x hx=>h j x ?_⟩;rw [List.getElem?_take] at hx
    split at hx
    · exact hx
    · cases hx
/- The reference's Leaves. Conditions:no more than a million entries,names no longer than 2^32. -/
theorem step_load_gm {P:Program} {ops:Array Oper} {rest:List Oper} {o:Oper} {a:Act} {w:World} {Q:Exit→Act→World→Prop} (hw:Region.wanted o (yielded ops a.tmps)=true) (ty:TypeId) (x:Operand) (ho:o.op=.load ty x) (g off:Nat) (hx:a.eval x=.pointer (some ⟨g,off,none⟩)) (cs:List Value) (dd:TypeDesc)
    (hr:w.rangeAt g off cs) (hu:P.underlying ty=some dd) (hdd:dd.isRow=true) (hi:(P.info? ty).map (·.size)=some cs.length)
    (h:wpList P ops Q rest (a.put o.dst (.agg cs.toArray)) w):wpList P ops Q (o::rest) a w:=by
  refine wpList_step fun K hK=>?_;rw [if_pos hw];exact wp_load_mid ty x ho g off hx cs dd hr hu hdd hi (hK _ _ h)
theorem own_first {w:World} {b n c:Nat} {e:TypeId} {A:Option Addr} {u:Value} {xs:List Value} (h:w.ownsRow b e 1 (.slice A n c) n (u::xs)):∃ g,A=some ⟨g,0,none⟩∧b≤g∧w.cell? ⟨g,0,none⟩=some u∧w.frozen? ⟨g,0,none⟩=false∧∀ v,(w.setCell ⟨g,0,none⟩ v).ownsRow b e 1 (.slice A n c) n (v::xs):=by
  have hl:=h.1;rcases h.2 with ⟨h1,h2⟩ | ⟨g,cap,cur,h1,hb,hg,hn,hc,hs,ht⟩
  · subst h2;simp at hl
  · simp only [Value.slice.injEq] at h1;obtain ⟨rfl,_,rfl⟩:=h1;have hr:Row w g e cur.toList:=by unfold Row;simpa using hg
    have hcur : ∃ r,cur.toList=u::r:=by
      cases hq:cur.toList with
      | nil=>rw [hq] at ht;simp at ht
      | cons y r=>
        rw [hq] at ht
        cases hm:(u::xs).length with
        | zero=>simp at hm
        | succ m=>
          first
            | (rw [hm] at ht;simp at ht;exact ⟨r,by rw [ht.1]⟩)
            | (cases n with
               | zero=>simp at hl
               | succ n=>simp at ht;exact ⟨r,by rw [ht.1]⟩)
    obtain ⟨r,hcr⟩:=hcur;refine ⟨g,rfl,hb,by rw [hr.cell,hcr];rfl,hr.free 0,fun v=>⟨by simpa using hl,.inr ⟨g,c,(v::r).toArray,rfl,hb,?_,hn,hc,?_,?_⟩⟩⟩
    · have h3:=hr.put 0 v;rw [hcr] at h3;exact h3.heap
    · rw [← hs];have:=congrArg List.length hcr;simp at this;simp [this]
    · rw [hcr] at ht;have h4:(u::xs).length=n*1:=hl
      cases n with
      | zero=>simp at h4
      | succ n=>
        simp at ht ⊢;exact ht
theorem one_hol {w:World} {g:Nat} (h:Row w g 5 [.int .u8 0]):Hol w (some ⟨g,0,none⟩) [(0:UInt8)]:=.inr ⟨g,0,rfl,fun j y hy=>by
  rw [Nat.zero_add,h.cell];rcases j with _ | j
  · simp at hy;subst hy;rfl
  · simp at hy⟩
theorem pad_eq (b:UInt8) (E:List UInt8) (m:Nat) (hm:m=E.length) (h:m≤255):(b::E)++List.replicate (256 - (m+1)) 0=b::(E++List.replicate (255 - E.length) 0):=by
  subst hm;rw [List.cons_append,show 256 - (E.length+1)=255 - E.length by omega]
theorem pad_more (E:List UInt8) (k:Nat):(E++List.replicate k 0)++[0]=E++List.replicate (k+1) (0:UInt8):=by
  rw [Zi,List.replicate_succ']
theorem rleaves_any (A :Option Addr) (n c:Nat) (X:List Ent) (hmax:n≤1000000) (w:World) (h:Lies ecs 5 w A X) (hn:X.length=n) (hcap:n≤c) (hnm:∀ e ∈ X,e.nm.size≤4294967296) (hw:Wide X):Calls Tryz.prog 17 #[.slice A n c] w (LvP w (lvL X) (lvE X)):=by
  obtain ⟨i8,U⟩:=u8_tab;have HM:=Za (fun w h=>rmay_anyD A n c X hmax w h hn hnm);have H:=Za h;by_cases hmay:MayL X
  · have e1 : lvL X = leaves X:=by unfold lvL;rw [if_pos hmay]
    have e2:lvE X=0:=by unfold lvE;rw [if_pos hmay]
    rw [e1,e2];have HNI:=Za (niceL_may hmay hw);have HN:=Za (And.intro hmax hn);have HC:=Za hcap
    have HM2:=Za (fun w h=>(HM.out w h).mono (R':=fun e w'=>e=.returned (.bool true)∧Below w.heap.size w w') (by
      rintro e w' ⟨⟨z,rfl,hz⟩,hb⟩;rw [hz.2 hmay];exact ⟨rfl,hb⟩))
    have HN32:=Za (p:=n≤32) (by have:=hmay.1;omega);clear HM h hmay e1 e2 hmax hn hcap hnm hw;go_enter Tryz.func17,Tryz.ntmps17
    go_wp2_with (go_at_call 15;refine (HM2.out _ H.out).mono ?_;rintro e w1 ⟨rfl,hb⟩;have HB1:=Za hb
                 clear hb)
    go_loopw [0,4] (fun x y wr=>∃ (i q d f m c':Nat) (B A':Option Addr) (P:List BV),x=.slice B q d∧y=.slice A' m c'∧Hid (Lies ecs 5 w B (X.drop i))∧Hid ((X.drop i).length=q)∧Hid (q≤d)∧Hid (OwnBs w.heap.size wr A' m c' P)∧Hid (P.map (·.l)++leavesN f (X.drop i)=leaves X)∧Hid (q≤f)∧Hid (m+q≤n)∧Hid (Below w.heap.size w wr)) (fun x _ _=>slen x)
    case atStart=>exact ⟨0,n,c,n,0,0,A,none,[],rfl,rfl,H,Za HN.out.2,HC,Za (OwnBs.nil _ _),Za (by simp only [List.map_nil,Zt,List.drop_zero];unfold leaves;rw [HN.out.2]),Za (Zj _),Za (by omega),HB1⟩
    case round =>
      obtain ⟨i,q,d,f,m,c',B,A',P,rfl,rfl,HL,HQ,HD,HO,HV,HF,HMN,HB⟩:=hrel
      rename World=>wo;by_cases hq:0<q
      · have hqi : (0 : Int)<(q:Int):=by omega
        obtain ⟨R,hR⟩:∃ R,X.drop i=R:=⟨_,rfl⟩;rw [hR] at HL HQ HV;have hNR:NiceL R:=fun e he=>HNI.out e (by rw [← hR] at he;exact List.mem_of_mem_drop he);have hRne:R≠[]:=fun h0=>by have:=HQ.out;rw [h0] at this;simp at this;omega
        obtain ⟨f',hf',hf2⟩:=leavesN_step hRne (by rw [HQ.out];exact HF.out) (niceL_enb hNR);have hp:=fitL_pos hRne (niceL_enb hNR);have hle:=fitL_le R 255;have hpk:=fitL_pack R 255;obtain ⟨K,hK⟩:∃ K,fitL 255 R=K:=⟨_,rfl⟩;have HIN:=Za (p:=∀ (k:Nat) (x:Ent),R[k]?=some x→k<K→(packL (R.take k)).length+(enb x).length≤255) (fun k x hx hk=>fitL_in R 255 k x hx (by omega));have HOUT:=Za (p:=∀ (x:Ent),R[K]?=some x→255<(packL (R.take K)).length+(enb x).length) (fun x hx=>by have:=fitL_out R 255 x (by rw [hK];exact hx);rw [hK] at this;exact this);have HLF:=Za (p:=UInt8.ofNat K::(packL (R.take K)++List.replicate (255 - (packL (R.take K)).length) 0)=leafB R) (by rw [← hK];rfl);rw [hK] at hf' hf2 hp hle hpk;have HPL:=Za (p:=(packL (R.take K)).length≤255) hpk;have hlf2:=leafB_len R;obtain ⟨lf,hlf⟩:∃ lf,leafB R=lf:=⟨_,rfl⟩;rw [hlf] at hf' HLF hlf2;have hKq:K≤q:=by have:=HQ.out;omega
        obtain ⟨B',d',hrun,hd',hcut⟩:=cut_ent B d q K hKq HD.out
        have HV2:=Za (p:=∀ bv:BV,bv.l=lf→(P++[bv]).map (·.l)++leavesN f' (X.drop (i+K))=leaves X) (fun bv hbv=>by
          rw [← HV.out,hf', ← hR,List.drop_drop,List.map_append,Zi];simp [hbv])
        have HQ2:=Za (p:=(X.drop (i+K)).length=q - K) (by rw [← List.drop_drop,hR,Zs,HQ.out]);have HF2:=Za (p:=q - K≤f') (by rw [Zs,HQ.out] at hf2;exact hf2);have HCUT:=Za (p:=∀ W:World,Lies ecs 5 W B R→Lies ecs 5 W B' (X.drop (i+K))) (fun W h=>by have:=hcut W R HQ.out h;rwa [← hR,List.drop_drop] at this);have HD2:=Za hd';have HKP:=Za (And.intro hp hKq);have HBV:=Za (p:=∀ (A1:Option Addr) (c1:Nat),bvv ⟨A1,c1,lf⟩=.slice A1 256 c1) (fun A1 c1=>by unfold bvv;rw [hlf2]);have HLL:=Za hlf2;have HQN:=Za (p:=q≤32) (by have:=HMN.out;have:=HN32.out;omega);have HNR:=Za hNR;clear hR hNR hRne hf' hf2 hp hle hpk hK hlf hlf2 hKq hd' hcut hq HV HF;have uK:=wrap_u8n K (by have:=HKP.out;have:=HQN.out;omega)
        go_wp2_with (refine step_bsv rfl 23 5 _ rfl Tryz.underlying23 info_b1D _ zero_u8D (.int .u8 0) rfl rfl ?_;intro g1 w2 hr1 hg1 hb1;have HO2:=Za (p:=w2.ownsRow wo.heap.size 5 1 (.slice (some ⟨g1,0,none⟩) 1 1) 1 (bc ((0:UInt8)::packL (R.take 0)))) (own_row (cs:=[.int .u8 0]) hr1 rfl (Nat.le_of_eq hg1.out.symm) (by decide))
                     have HB2:=Za hb1;clear hr1 hg1 hb1)
        go_loopw [5,6] (fun x y wr=>∃ (k m1 c1:Nat) (A1:Option Addr),y=.int .i64 (k:Int)∧x=.slice A1 m1 c1∧Hid (k≤K)∧Hid (m1=1+(packL (R.take k)).length)∧Hid (wr.ownsRow wo.heap.size 5 1 (.slice A1 m1 c1) m1 (bc ((0:UInt8)::packL (R.take k))))∧Hid (Below wo.heap.size wo wr)) (fun _ y _=>q - (intOf y).toNat)
        case atStart=>exact ⟨0,1,1,some ⟨g1,0,none⟩,rfl,rfl,Za (Nat.zero_le _),Za (by simp [packL]),HO2,HB2⟩
        case round =>
          clear HO2 HB2;obtain ⟨k,m1,c1,A1,rfl,rfl,HKL,HM1,HO1,HBI⟩:=hrel
          rename World=>wr;by_cases hkq:k<q
          · have hki : (k:Int)<(q:Int):=by omega
            have hkw:IntKind.i64.wrap ((k:Int)+1)=(k:Int)+1:=by rw [Zg];have:=HQN.out;omega
            have hkx:k<R.length:=by have:=HQ.out;omega
            obtain ⟨ga,oa,rfl,hc⟩:=(HL.out.below (below_nxt HBI.out HB.out)).at_ hkx
            obtain ⟨x,hx⟩:∃ x,R[k]=x:=⟨_,rfl⟩;rw [hx] at hc;have HX:=Za (p:=R[k]?=some x) (by rw [Zh hkx,hx]);have HR:=Za (p:=wr.rangeAt ga (oa+k*5) (ecs x)) (fun j u hu=>hc j u hu);obtain ⟨ia,ka,sa,hnice,hs200⟩:=HNR.out x (Zx HX.out);obtain ⟨z,hz⟩:∃ z,16+sa=z:=⟨_,rfl⟩;have HPK:=Za (fun w=>rpack_any x ia ka sa hnice w);rw [hz] at HPK;have hzl:z=(enb x).length:=by rw [enb_len,hnice.nm];exact hz.symm
            have HZL:=Za hzl;obtain ⟨t1,ht1⟩:∃ t,m1+z=t:=⟨_,rfl⟩;have hz300:z≤300:=by omega
            have hm300:m1≤256:=by
              have h1:=HM1.out
              have h2:(packL (R.take k)).length≤255:=by
                by_cases hkK:k<K
                · have:=HIN.out k x HX.out hkK;omega
                · have h3:k=K:=by have:=HKL.out;omega
                  rw [h3];exact HPL.out
              omega
            have a1:IntKind.i64.wrap ((m1:Int)+(z:Int))=(t1:Int):=by rw [Zg];omega
            by_cases hkK:k<K
            · have hin:=HIN.out k x HX.out hkK;have a2:(t1:Int)≤256:=by have:=HM1.out;omega
              have HT:=Za (p:=m1+z≤256) (by omega);have HKK:=Za hkK;clear hc hx hkx hkq hnice hs200 hz hzl hin ht1 hkK hz300 hm300
              go_wp2_with (first
                | (refine step_load_gm (by rfl) 61 (.tmp 23) rfl ga (oa+k*5) rfl (ecs x) _ HR.out Yi rfl (info_ent x) ?_)
                | (refine wpList_load_mid rfl 61 (.tmp 33) rfl ga (oa+k*5) rfl (ecs x) _ HR4.out Yi rfl (info_ent x) ?_)
                | (go_at_call 42;refine (HPK.out wr).mono ?_;rintro e w4 ⟨A4,c4,rfl,ho,hb⟩;have HB4:=Za hb
                   have HR4:=Za (p:=w4.rangeAt ga (oa+k*5) (ecs x)) (fun j u hu=>(hb.cell (p:=⟨ga,oa+k*5+j,none⟩) (Ya wr _ (HR.out j u hu))).trans (HR.out j u hu));have HPK2:=Za HPK.out;clear ho hb HPK)
                | (go_at_call 42;refine (HPK2.out w4).mono ?_;rintro e w5 ⟨A5,c5,rfl,ho,hb⟩;have HB5:=Za (below_nxt hb HB4.out)
                   have HO5:=Za (Hol.own ho);have HE5:=Za (own_kept HO1.out HB5.out);clear ho hb)
                | (at_builtin
                   refine wpList_app _ rfl _ _ 23 rfl 5 i8 U wo.heap.size (.slice A1 m1 c1) m1 (bc ((0:UInt8)::packL (R.take k))) rfl HE5.out A5 z c5 (enb x) rfl HZL.out HO5.out (by have:=HT.out;omega) (by have:=HBI.out.size;have:=HB5.out.size;omega) ?_;intro v1 w6 ho1 hg1 hat1;have HO6:=Za ho1;obtain ⟨A6,c6,rfl⟩:=own_sl ho1;have HB6:=Za ((below_nxt HB5.out HBI.out).grown hg1 (below_nxt HB5.out HBI.out).size (fun k hk=>(HE5.out.lt k hk).1));clear ho1 hg1 hat1))
              go_roundw
              case rel=>exact ⟨k+1,m1+z,c6,A6,by go_num,rfl,Za HKK.out,Za (by rw [packL_snoc HX.out,Zf,HM1.out,HZL.out];omega),Za (by rw [packL_snoc HX.out, ← List.cons_append,bc_app];exact HO6.out),HB6⟩
              case measure=>have:=HKK.out;have:=HKP.out;simp [intOf];omega
            · have hke :k=K:=by have:=HKL.out;omega
              obtain rfl:=hke;have hout:=HOUT.out x HX.out;have a2:¬ (t1:Int)≤256:=by have:=HM1.out;omega
              clear hc hx hkx hkq hnice hs200 hz hzl hout ht1 hkK hz300 hm300
              go_upto_region 10 with (first
                | (refine step_load_gm (by rfl) 61 (.tmp 23) rfl ga (oa+k*5) rfl (ecs x) _ HR.out Yi rfl (info_ent x) ?_)
                | (go_at_call 42;refine (HPK.out wr).mono ?_;rintro e w4 ⟨A4,c4,rfl,ho,hb⟩;have HBx:=Za (below_nxt hb HBI.out)
                   have HOx:=Za (own_kept HO1.out hb);clear ho hb))
              clear HR HPK HO1 HBI a1 a2;obtain ⟨E,hE⟩:∃ E,packL (R.take k)=E:=⟨_,rfl⟩;rw [hE] at HM1 HOx HLF HPL;obtain ⟨gl,rfl,hgl,cl,fl,hset⟩:=own_first (by have h1:=HOx.out;rw [show bc ((0:UInt8)::E)=.int .u8 0::bc E from rfl] at h1;exact h1);have HSET:=Za (hset (.int .u8 (k:Int)));have HGL:=Za hgl;have h0m:(0:Int)<(m1:Int):=by have:=HM1.out;omega
              have h0m2:0<m1:=by omega
              clear hset hgl;go_wp2;generalize hws:(w4).setCell ⟨gl,0,none⟩ (.int .u8 (k:Int))=ws at*
              have HOs:=Za (p:=ws.ownsRow wo.heap.size 5 1 (.slice (some ⟨gl,0,none⟩) m1 c1) m1 (bc ((UInt8.ofNat k::E)++List.replicate (m1 - m1) 0))) (by
                have h1:=HSET.out;rw [Nat.sub_self,List.replicate_zero,Zy,show bc (UInt8.ofNat k::E)=.int .u8 ((UInt8.ofNat k).toNat:Int)::bc E from rfl,u8_nat2 k (by have:=HKP.out;have:=HQN.out;omega)];exact h1)
              have HBs:=Za (p:=Below wo.heap.size wo ws) (by rw [← hws];exact HBx.out.setCell HGL.out _);clear hws HSET HOx HBx cl fl uK h0m h0m2;go_loopw [5] (fun x wr=>∃ (j c2:Nat) (A2:Option Addr),x=.slice A2 j c2∧Hid (m1≤j∧j≤256)∧Hid (wr.ownsRow wo.heap.size 5 1 (.slice A2 j c2) j (bc ((UInt8.ofNat k::E)++List.replicate (j - m1) 0)))∧Hid (Below wo.heap.size wo wr)) (fun x _=>256 - slen x)
              case atStart=>exact ⟨m1,c1,some ⟨gl,0,none⟩,rfl,Za ⟨Zj _,by have:=HM1.out;have:=HPL.out;omega⟩,HOs,HBs⟩
              case round=>
                clear HOs HBs;obtain ⟨j,c2,A2,rfl,HJ,HO2,HB2⟩:=hrel
                rename World=>wr2;by_cases hj:j<256
                · have hji:(j:Int)<256:=by omega
                  have HJL:=Za hj;clear hj
                  go_wp2_with (first
                    | (refine step_bsv rfl 23 5 _ rfl Tryz.underlying23 info_b1D _ zero_u8D (.int .u8 0) rfl rfl ?_;intro g3 w3 hr3 hg3 hb3;have HH3:=Za (one_hol hr3)
                       have HO3:=Za (own_kept HO2.out hb3);have HB3:=Za (below_nxt hb3 HB2.out);clear hr3 hg3 hb3)
                    | (at_builtin
                       refine wpList_app _ rfl _ _ 23 rfl 5 i8 U wo.heap.size (.slice A2 j c2) j (bc ((UInt8.ofNat k::E)++List.replicate (j - m1) 0)) rfl HO3.out (some ⟨g3,0,none⟩) 1 1 [(0:UInt8)] rfl rfl HH3.out (by have:=HJL.out;omega) HB3.out.size ?_;intro v1 w6 ho1 hg1 hat1;have HO6:=Za ho1;obtain ⟨A6,c6,rfl⟩:=own_sl ho1;have HB6:=Za (HB3.out.grown hg1 HB3.out.size (fun k hk=>(HO3.out.lt k hk).1));clear ho1 hg1 hat1))
                  go_roundw
                  case rel=>exact ⟨j+1,c6,A6,rfl,Za (by have:=HJ.out;have:=HJL.out;omega),Za (by have h1:=HO6.out;rw [← bc_app,pad_more] at h1;rw [show j+1 - m1=j - m1+1 by have:=HJ.out;omega];exact h1),HB6⟩
                  case measure=>have:=HJL.out;simp [slen];omega
                · have hje:j=256:=by have:=HJ.out;omega
                  subst hje;have hji:¬ ((256:Nat):Int)<256:=by omega
                  have HO7:=Za (p:=Own8 wo.heap.size wr2 ⟨A2,c2,lf⟩) (by
                    have h1:=HO2.out
                    have h2:(UInt8.ofNat k::E)++List.replicate (256 - m1) 0=lf:=by
                      rw [← HLF.out,show m1=E.length+1 by have:=HM1.out;omega];exact pad_eq _ E E.length rfl HPL.out
                    rw [h2] at h1;unfold Own8;rw [HBV.out,HLL.out];exact h1)
                  have HOB7:=Za (HO.out.below HB2.out);have HBW7:=Za (below_nxt HB2.out HB.out);clear hj HO2
                  go_wp2_with (first
                    | (refine step_bsv rfl 51 23 _ rfl Tryz.underlying51 info_sl _ zero_sl (.slice A2 256 c2) rfl rfl ?_;intro g3 w3 hr3 hg3 hb3;have HR3:=Za hr3
                       have HO3:=Za (p:=Own8 w.heap.size w3 ⟨A2,c2,lf⟩) ((HO7.out.below hb3).lower HB.out.size);have HOB3:=Za (HOB7.out.below hb3);have HB3:=Za (below_nxt hb3 HBW7.out);clear hr3 hg3 hb3)
                    | (at_builtin
                       refine wp_join rfl _ _ rfl rec_sl w.heap.size (.slice A' m c') m (P.flatMap sc) rfl HOB3.out.1 (some ⟨g3,0,none⟩) 1 1 (sc ⟨A2,c2,lf⟩) rfl rfl (.inr ⟨_,rfl,fun j u hu=>by rw [Addr.add_lit];unfold sc at hu;rw [HBV.out] at hu;exact HR3.out.all j u hu⟩) (sc_one _) (by have:=HMN.out;have:=HN32.out;omega) HB3.out.size ?_;intro v1 w4 ho1 hg1 hat1;have HG4:=Za hg1;have HO4:=Za ho1;obtain ⟨A9,c9,rfl⟩:=own_sl ho1;have HB4:=Za (HB3.out.grown hg1 HB3.out.size (fun k hk=>(HOB3.out.1.lt k hk).1));clear ho1 hg1 hat1))
                  go_roundw
                  case rel=>
                    refine ⟨i+k,q - k,d',f',m+1,c9,B',A9,P++[⟨A2,c2,lf⟩],rfl,rfl,Za (HCUT.out _ HL.out),HQ2,HD2,Za ⟨by rw [flat_snoc];exact HO4.out,by rw [Zf,HOB3.out.2.1];rfl,fun x hx=>?_⟩,Za (HV2.out _ rfl),HF2,Za (by have:=HMN.out;have:=HKP.out;omega),HB4⟩;rcases List.mem_append.1 hx with hx | hx
                    · exact own8_grow (by decide) HOB3.out.1 (HOB3.out.2.2 x hx) HG4.out
                    · rw [Zr] at hx;subst hx;exact own8_grow (by decide) HOB3.out.1 HO3.out HG4.out
                  case measure=>have:=HKP.out;simp [slen];omega
          · have hke :k=K:=by have:=HKL.out;have:=HKP.out;omega
            obtain rfl:=hke;have hki:¬ (k:Int)<(q:Int):=by omega
            have HBx:=HBI;have HOx:=HO1;clear hkq;go_upto_region 10 with (fail)
            clear HO1 HBI;obtain ⟨E,hE⟩:∃ E,packL (R.take k)=E:=⟨_,rfl⟩;rw [hE] at HM1 HOx HLF HPL;obtain ⟨gl,rfl,hgl,cl,fl,hset⟩:=own_first (by have h1:=HOx.out;rw [show bc ((0:UInt8)::E)=.int .u8 0::bc E from rfl] at h1;exact h1);have HSET:=Za (hset (.int .u8 (k:Int)));have HGL:=Za hgl;have h0m:(0:Int)<(m1:Int):=by have:=HM1.out;omega
            have h0m2:0<m1:=by omega
            clear hset hgl;go_wp2;generalize hws:(wr).setCell ⟨gl,0,none⟩ (.int .u8 (k:Int))=ws at*
            have HOs:=Za (p:=ws.ownsRow wo.heap.size 5 1 (.slice (some ⟨gl,0,none⟩) m1 c1) m1 (bc ((UInt8.ofNat k::E)++List.replicate (m1 - m1) 0))) (by
              have h1:=HSET.out;rw [Nat.sub_self,List.replicate_zero,Zy,show bc (UInt8.ofNat k::E)=.int .u8 ((UInt8.ofNat k).toNat:Int)::bc E from rfl,u8_nat2 k (by have:=HKP.out;have:=HQN.out;omega)];exact h1)
            have HBs:=Za (p:=Below wo.heap.size wo ws) (by rw [← hws];exact HBx.out.setCell HGL.out _);clear hws HSET HOx HBx cl fl uK h0m h0m2;go_loopw [5] (fun x wr=>∃ (j c2:Nat) (A2:Option Addr),x=.slice A2 j c2∧Hid (m1≤j∧j≤256)∧Hid (wr.ownsRow wo.heap.size 5 1 (.slice A2 j c2) j (bc ((UInt8.ofNat k::E)++List.replicate (j - m1) 0)))∧Hid (Below wo.heap.size wo wr)) (fun x _=>256 - slen x)
            case atStart=>exact ⟨m1,c1,some ⟨gl,0,none⟩,rfl,Za ⟨Zj _,by have:=HM1.out;have:=HPL.out;omega⟩,HOs,HBs⟩
            case round=>
              clear HOs HBs;obtain ⟨j,c2,A2,rfl,HJ,HO2,HB2⟩:=hrel
              rename World=>wr2;by_cases hj:j<256
              · have hji:(j:Int)<256:=by omega
                have HJL:=Za hj;clear hj
                go_wp2_with (first
                  | (refine step_bsv rfl 23 5 _ rfl Tryz.underlying23 info_b1D _ zero_u8D (.int .u8 0) rfl rfl ?_;intro g3 w3 hr3 hg3 hb3;have HH3:=Za (one_hol hr3)
                     have HO3:=Za (own_kept HO2.out hb3);have HB3:=Za (below_nxt hb3 HB2.out);clear hr3 hg3 hb3)
                  | (at_builtin
                     refine wpList_app _ rfl _ _ 23 rfl 5 i8 U wo.heap.size (.slice A2 j c2) j (bc ((UInt8.ofNat k::E)++List.replicate (j - m1) 0)) rfl HO3.out (some ⟨g3,0,none⟩) 1 1 [(0:UInt8)] rfl rfl HH3.out (by have:=HJL.out;omega) HB3.out.size ?_;intro v1 w6 ho1 hg1 hat1;have HO6:=Za ho1;obtain ⟨A6,c6,rfl⟩:=own_sl ho1;have HB6:=Za (HB3.out.grown hg1 HB3.out.size (fun k hk=>(HO3.out.lt k hk).1));clear ho1 hg1 hat1))
                go_roundw
                case rel=>exact ⟨j+1,c6,A6,rfl,Za (by have:=HJ.out;have:=HJL.out;omega),Za (by have h1:=HO6.out;rw [← bc_app,pad_more] at h1;rw [show j+1 - m1=j - m1+1 by have:=HJ.out;omega];exact h1),HB6⟩
                case measure=>have:=HJL.out;simp [slen];omega
              · have hje:j=256:=by have:=HJ.out;omega
                subst hje;have hji:¬ ((256:Nat):Int)<256:=by omega
                have HO7:=Za (p:=Own8 wo.heap.size wr2 ⟨A2,c2,lf⟩) (by
                  have h1:=HO2.out
                  have h2:(UInt8.ofNat k::E)++List.replicate (256 - m1) 0=lf:=by
                    rw [← HLF.out,show m1=E.length+1 by have:=HM1.out;omega];exact pad_eq _ E E.length rfl HPL.out
                  rw [h2] at h1;unfold Own8;rw [HBV.out,HLL.out];exact h1)
                have HOB7:=Za (HO.out.below HB2.out);have HBW7:=Za (below_nxt HB2.out HB.out);clear hj HO2
                go_wp2_with (first
                  | (refine step_bsv rfl 51 23 _ rfl Tryz.underlying51 info_sl _ zero_sl (.slice A2 256 c2) rfl rfl ?_;intro g3 w3 hr3 hg3 hb3;have HR3:=Za hr3
                     have HO3:=Za (p:=Own8 w.heap.size w3 ⟨A2,c2,lf⟩) ((HO7.out.below hb3).lower HB.out.size);have HOB3:=Za (HOB7.out.below hb3);have HB3:=Za (below_nxt hb3 HBW7.out);clear hr3 hg3 hb3)
                  | (at_builtin
                     refine wp_join rfl _ _ rfl rec_sl w.heap.size (.slice A' m c') m (P.flatMap sc) rfl HOB3.out.1 (some ⟨g3,0,none⟩) 1 1 (sc ⟨A2,c2,lf⟩) rfl rfl (.inr ⟨_,rfl,fun j u hu=>by rw [Addr.add_lit];unfold sc at hu;rw [HBV.out] at hu;exact HR3.out.all j u hu⟩) (sc_one _) (by have:=HMN.out;have:=HN32.out;omega) HB3.out.size ?_;intro v1 w4 ho1 hg1 hat1;have HG4:=Za hg1;have HO4:=Za ho1;obtain ⟨A9,c9,rfl⟩:=own_sl ho1;have HB4:=Za (HB3.out.grown hg1 HB3.out.size (fun k hk=>(HOB3.out.1.lt k hk).1));clear ho1 hg1 hat1))
                go_roundw
                case rel=>
                  refine ⟨i+k,q - k,d',f',m+1,c9,B',A9,P++[⟨A2,c2,lf⟩],rfl,rfl,Za (HCUT.out _ HL.out),HQ2,HD2,Za ⟨by rw [flat_snoc];exact HO4.out,by rw [Zf,HOB3.out.2.1];rfl,fun x hx=>?_⟩,Za (HV2.out _ rfl),HF2,Za (by have:=HMN.out;have:=HKP.out;omega),HB4⟩;rcases List.mem_append.1 hx with hx | hx
                  · exact own8_grow (by decide) HOB3.out.1 (HOB3.out.2.2 x hx) HG4.out
                  · rw [Zr] at hx;subst hx;exact own8_grow (by decide) HOB3.out.1 HO3.out HG4.out
                case measure=>have:=HKP.out;simp [slen];omega
      · have hq0:q=0:=by omega
        have hqi:¬ (0:Int)<(q:Int):=by omega
        have HV2:=Za (p:=P.map (·.l)=leaves X) (by
          have h1:=HV.out;have h2:X.drop i=[]:=Zk (by rw [HQ.out,hq0]);rw [h2,leavesN_nil,Zy] at h1;exact h1)
        clear hq hq0 HV;go_wp2;go_ret2;exact ⟨A',m,c',P,rfl,HO.out,HV2.out,by have:=HMN.out;have:=HN32.out;omega,HB.out⟩
  · have e1 : lvL X=[]:=by unfold lvL;rw [if_neg hmay]
    have e2:lvE X=201:=by unfold lvE;rw [if_neg hmay]
    rw [e1,e2]
    have HM2:=Za (fun w h=>(HM.out w h).mono (R':=fun e w'=>e=.returned (.bool false)∧Below w.heap.size w w') (by
      rintro e w' ⟨⟨z,rfl,hz⟩,hb⟩;cases z
      · exact ⟨rfl,hb⟩
      · exact absurd (hz.1 rfl) hmay))
    clear HM h hmay e1 e2 hmax hn hcap hnm hw;go_enter Tryz.func17,Tryz.ntmps17
    go_wp2_with (go_at_call 15;refine (HM2.out _ H.out).mono ?_;rintro e w1 ⟨rfl,hb⟩;have HB1:=Za hb
                 clear hb)
    go_ret2;exact ⟨none,0,0,[],rfl,OwnBs.nil _ _,rfl,by omega,HB1.out⟩
/- Plain facts of the reference's reading:an entry at its place in a leaf. No conditions. -/
def sub (b:List UInt8) (o n:Nat):List UInt8:=(b.drop o).take n
theorem sub_at {b a m r:List UInt8} {p j n:Nat} (h:b.drop p=a++(m++r)) (ha:a.length=j) (hm:m.length=n):sub b (p+j) n=m:=by
  unfold sub;rw [← List.drop_drop,h,List.drop_left' ha,List.take_left' hm]
theorem sub_len (b:List UInt8) (o n:Nat):(sub b o n).length≤n:=by unfold sub;rw [Zu];omega
theorem sub_full {b:List UInt8} {o n:Nat} (h:o+n≤b.length):(sub b o n).length=n:=by unfold sub;rw [Zu,Zs];omega
theorem sub_one {b:List UInt8} {p:Nat} (h:p<b.length):num (sub b p 1)=(b[p]).toNat:=by
  unfold sub;rw [List.drop_eq_getElem_cons h,List.take_succ_cons,List.take_zero];rfl
def refN (b:List UInt8) (p:Nat):Nat:=num (sub b (p+14) 2)
def refE (b:List UInt8) (p:Nat):Ent:=⟨⟨(sub b (p+16) (refN b p)).toArray⟩,(num (sub b p 1):Int),num (sub b (p+2) 8),(num (sub b (p+1) 1):Int),num (sub b (p+10) 4)⟩
theorem num_sub_lt (b:List UInt8) (o n:Nat):num (sub b o n)<256 ^ n:=Yc (num_lt _) (Nat.pow_le_pow_right (by omega) (sub_len b o n))
theorem refE_wide (b:List UInt8) (p:Nat):(refE b p).ser<18446744073709551616∧(refE b p).ck<4294967296:=⟨num_sub_lt b _ 8,num_sub_lt b _ 4⟩
theorem refE_nm (b:List UInt8) (p:Nat):(refE b p).nm.size≤refN b p:=by
  have e:(refE b p).nm.size=(sub b (p+16) (refN b p)).length:=by simp [refE,ByteArray.size]
  rw [e];exact sub_len _ _ _
theorem refE_enb {b:List UInt8} {p:Nat} (x:Ent) (i k s:Nat) (hn:Nice x i k s) (r:List UInt8) (h:b.drop p=enb x++r):refE b p=x∧refN b p=x.nm.data.toList.length:=by
  obtain ⟨hi,hk,hil,hkl,hser,hck,hnm,hsl⟩:=hn
  have e:b.drop p=leb i 1++(leb k 1++(leb x.ser 8++(leb x.ck 4++(leb s 2++(x.nm.data.toList++r))))):=by
    rw [h];unfold enb;rw [hi,hk,hnm,Yf,Yf];simp only [Zi]
  have a0:sub b p 1=leb i 1:=sub_at (a:=[]) (j:=0) e rfl (leb_len _ _);have a1:sub b (p+1) 1=leb k 1:=sub_at e (leb_len _ _) (leb_len _ _);have a2:sub b (p+2) 8=leb x.ser 8:=sub_at (a:=leb i 1++leb k 1) (r:=leb x.ck 4++(leb s 2++(x.nm.data.toList++r))) (by rw [e];simp only [Zi]) (by simp [leb_len]) (leb_len _ _);have a3:sub b (p+10) 4=leb x.ck 4:=sub_at (a:=leb i 1++leb k 1++leb x.ser 8) (r:=leb s 2++(x.nm.data.toList++r)) (by rw [e];simp only [Zi]) (by simp [leb_len]) (leb_len _ _);have a4:sub b (p+14) 2=leb s 2:=sub_at (a:=leb i 1++leb k 1++leb x.ser 8++leb x.ck 4) (r:=x.nm.data.toList++r) (by rw [e];simp only [Zi]) (by simp [leb_len]) (leb_len _ _);have a5:sub b (p+16) s=x.nm.data.toList:=sub_at (a:=leb i 1++leb k 1++leb x.ser 8++leb x.ck 4++leb s 2) (r:=r) (by rw [e];simp only [Zi]) (by simp [leb_len]) hnm;have hs:num (leb s 2)=s:=by rw [num_leb];exact Nat.mod_eq_of_lt (by omega)
  have hN:refN b p=s:=by unfold refN;rw [a4,hs]
  refine ⟨?_,by rw [hN,hnm]⟩;unfold refE;rw [hN,a0,a1,a2,a3,a5,num_leb,num_leb,num_leb,num_leb,Nat.mod_eq_of_lt (by omega:i<256 ^ 1),Nat.mod_eq_of_lt (by omega:k<256 ^ 1),Nat.mod_eq_of_lt (by omega:x.ser<256 ^ 8),Nat.mod_eq_of_lt (by omega:x.ck<256 ^ 4), ← hi, ← hk]
theorem leaf_step {R:List Ent} {k p:Nat} (h:NiceL R) (hk:k<fitL 255 R) (hp:p=1+(packL (R.take k)).length):R.take (k+1)=R.take k++[refE (leafB R) p]∧p+16+refN (leafB R) p=1+(packL (R.take (k+1))).length∧p+16+refN (leafB R) p≤256:=by
  have hle:=fitL_le R 255;obtain ⟨x,hx⟩:∃ x,R[k]?=some x:=⟨_,Zh (by omega)⟩;have hin:=fitL_in R 255 k x hx hk;obtain ⟨i,q,s,hn,_⟩:=h x (Zx hx);have hkl:k<(R.take (fitL 255 R)).length:=by rw [Zu];omega
  have hge:(R.take (fitL 255 R))[k]'hkl=x:=by
    have h1:(R.take (fitL 255 R))[k]?=some x:=by rw [List.getElem?_take,if_pos hk,hx]
    rw [Zh hkl] at h1;exact Option.some.inj h1
  have hd:(leafB R).drop p=enb x++(packL ((R.take (fitL 255 R)).drop (k+1))++List.replicate (255 - (packL (R.take (fitL 255 R))).length) 0):=by
    have e1:packL (R.take (fitL 255 R))=packL (R.take k)++(enb x++packL ((R.take (fitL 255 R)).drop (k+1))):=by
      have e2:R.take (fitL 255 R)=R.take k++x::(R.take (fitL 255 R)).drop (k+1):=by
        have e3:=List.take_append_drop k (R.take (fitL 255 R));rw [List.drop_eq_getElem_cons hkl,hge,List.take_take,Nat.min_eq_left (by omega)] at e3;exact e3.symm
      have e4:=congrArg packL e2;rw [e4];unfold packL;rw [List.flatMap_append,List.flatMap_cons]
    have e5:leafB R=(UInt8.ofNat (fitL 255 R)::packL (R.take k))++(enb x++(packL ((R.take (fitL 255 R)).drop (k+1))++List.replicate (255 - (packL (R.take (fitL 255 R))).length) 0)):=by
      unfold leafB;rw [List.cons_append];congr 1
      conv=>lhs;arg 1;rw [e1]
      simp only [Zi]
    rw [e5];exact List.drop_left' (by rw [List.length_cons,hp];omega)
  obtain ⟨h1,h2⟩:=refE_enb x i q s hn _ hd;have hen:=enb_len x;have hps:=packL_snoc hx;refine ⟨?_,?_,?_⟩
  · rw [h1,List.take_add_one,hx];rfl
  · rw [h2,hps,Zf,hen];omega
  · rw [h2];omega
theorem leaf_head {R:List Ent} (h:0<(leafB R).length):((leafB R)[0]).toNat=fitL 255 R:=by
  have h1:=fitL_255 (R:=R)
  have h2:(leafB R)[0]=UInt8.ofNat (fitL 255 R):=by
    have h3:(leafB R)[0]?=some (UInt8.ofNat (fitL 255 R)):=by unfold leafB;rfl
    rw [Zh h] at h3;exact Option.some.inj h3
  rw [h2];simp;omega
theorem okb_leaf {Bs:List (List UInt8)} {M i:Nat} {b:List UInt8} (h:OkB Bs) (hM:∀ b ∈ Bs,b.length≤M) (hb:Bs[i]?=some b):∃ R,b=leafB R∧NiceL R:=by
  have hn:=niceL_may h.1 (prs_ok hM).1
  have hb2:(leavesN (prs Bs).length (prs Bs))[i]?=some b:=by
    have:leavesN (prs Bs).length (prs Bs)=Bs:=h.2;rw [this];exact hb
  obtain ⟨R,h1,h2,_⟩:=leavesN_get _ hn (Zj _) hb2;exact ⟨R,h1,h2⟩
def MidB (Bs:List (List UInt8)) (i:Nat) (b:List UInt8) (k p:Nat) (L:List Ent):Prop:=OkB Bs→∃ R,b=leafB R∧NiceL R∧k≤fitL 255 R∧p=1+(packL (R.take k)).length∧L=prs (Bs.take i)++R.take k
theorem MidB.begin {Bs:List (List UInt8)} {M i:Nat} {b:List UInt8} {L:List Ent} (hM:∀ b ∈ Bs,b.length≤M) (hb:Bs[i]?=some b) (hL:OkB Bs→L=prs (Bs.take i)):MidB Bs i b 0 1 L:=fun h=>by
  obtain ⟨R,h1,h2⟩:=okb_leaf h hM hb;exact ⟨R,h1,h2,Nat.zero_le _,by simp [packL],by rw [hL h];simp⟩
theorem MidB.no {Bs:List (List UInt8)} {i k p:Nat} {b:List UInt8} {L:List Ent} (h:MidB Bs i b k p L) (h0:0<b.length) (hk:k<(b[0]).toNat) (hp:256<p+16+refN b p):¬ OkB Bs:=fun ho=>by
  obtain ⟨R,rfl,h2,h3,h4,h5⟩:=h ho;rw [leaf_head] at hk;have:=(leaf_step h2 hk h4).2.2;omega
theorem MidB.step {Bs:List (List UInt8)} {i k p:Nat} {b:List UInt8} {L:List Ent} (h:MidB Bs i b k p L) (h0:0<b.length) (hk:k<(b[0]).toNat):MidB Bs i b (k+1) (p+16+refN b p) (L++[refE b p]):=fun ho=>by
  obtain ⟨R,rfl,h2,h3,h4,h5⟩:=h ho;rw [leaf_head] at hk;obtain ⟨e1,e2,_⟩:=leaf_step h2 hk h4;exact ⟨R,rfl,h2,hk,e2,by rw [h5,e1,Zi]⟩
theorem MidB.fin {Bs:List (List UInt8)} {i k p:Nat} {b:List UInt8} {L:List Ent} (h:MidB Bs i b k p L) (h0:0<b.length) (hk:(b[0]).toNat≤k) (hb:Bs[i]?=some b):OkB Bs→L=prs (Bs.take (i+1)):=fun ho=>by
  obtain ⟨R,rfl,h2,h3,h4,h5⟩:=h ho;rw [leaf_head] at hk;obtain rfl:k=fitL 255 R:=by omega
  rw [h5];unfold prs;rw [List.take_add_one,hb];simp [read_leaf h2]
theorem okb_256 {Bs:List (List UInt8)} {M i:Nat} {b:List UInt8} (hM:∀ b ∈ Bs,b.length≤M) (hb:Bs[i]?=some b) (hl:b.length≠256):¬ OkB Bs:=fun h=>by
  obtain ⟨R,h1,_⟩:=okb_leaf h hM hb;exact hl (by rw [h1];exact leafB_len R)
theorem okb_32 {Bs:List (List UInt8)} {i:Nat} {L:List Ent} (hL:OkB Bs→L=prs (Bs.take i)) (hl:32<L.length):¬ OkB Bs:=fun h=>by
  have h1:=h.1.1;have h2:=hL h
  have h3:(prs (Bs.take i)).length≤(prs Bs).length:=by
    conv=>rhs;rw [← List.take_append_drop i Bs]
    unfold prs;rw [List.flatMap_append,Zf];omega
  rw [h2] at hl;omega
end Go.Proofs.YtijffkklhgnknaaGreatDoor
