/- Package dir: numbers behind bytes; an entry's bytes. Conditions: those named. -/
import Derived.Test.YtijffkklhgnknaaGreatDoorAz
import Derived.Test.YtijffkklhgnknaaGreatDoorMgNames
import Derived.Test.YtijffkklhgnknaaGreatDoorMgChg
import Derived.Test.YtijffkklhgnknaaGreatDoorMgMem
import Derived.Deep.RegionHeld3
import Derived.Deep.CutRange
import Derived.StillTailTactics
import Derived.BigQuiet
import Derived.Deep.QuietTactic
import Derived.Shelf.SlicesQ.Load
import Derived.Laws.IdiomCopy
import Derived.BigRegion
import Derived.Deep.RegionLaw
set_option maxHeartbeats 20000000
set_option linter.unusedVariables false
set_option maxRecDepth 20000
namespace Go.Proofs.YtijffkklhgnknaaGreatDoor
open Go.RowKit
def ByP (w:World) (m:Nat) (l:List UInt8) (e:Ending) (w':World):Prop:=
  ∃ A c,e=.returned (.slice A m c)∧w'.ownsRow w.heap.size 5 1 (.slice A m c) m (bc l)∧Below w.heap.size w w'
theorem own8_sl {w:World} {b n:Nat} {v:Value} {l:List UInt8} (h:w.ownsRow b 5 1 v n (bc l)):∃ A c,v=.slice A n c:=by
  obtain ⟨hn,A,c,rfl,_⟩:=own_form h;exact ⟨A,c,by rw [hn]⟩
theorem own8_row {w:World} {base g n:Nat} {f:Nat→UInt8} (h:Row w g 5 (brr n f)) (hb:base≤g) (hn:n≤maxLen):w.ownsRow base 5 1 (.slice (some ⟨g,0,none⟩) n n) n (bc (lst n f)):=by
  rw [← lst_bc];exact ⟨by rw [brr_len,Nat.mul_one],.inr ⟨g,n,_,rfl,hb,h.heap,Zj _,hn,by simp [brr_len],Zz (by simp [brr_len])⟩⟩
theorem putR_ok (l:List UInt8) (k x:Nat) (hk:k=1∨k=2∨k=4∨k=8) (hx:x<256 ^ k):putRD l (k:Int) x=(l++leb x k,0):=by
  have e:((k:Int)).toNat=k:=Yf k;have hw:wid (k:Int)≠0:=by rcases hk with rfl | rfl | rfl | rfl <;> decide
  unfold putRD;rw [if_neg hw,e,Nat.div_eq_of_lt hx,if_neg (by omega)]
theorem dnumber_any (A:Option Addr) (c m:Nat) (l:List UInt8) (k x:Nat) (z:Int) (hz:z=(k:Int)) (hm:m=l.length) (w:World) (hA:Hol w A l) (hk:k=1∨k=2∨k=4∨k=8) (hx:x<256 ^ k) (hl:l.length≤1000000):
    Calls Tryz.prog 98 #[.slice A m c,.int .i64 z,.int .u64 (x:Int)] w (ByP w (m+k) (l++leb x k)):=by
  subst hm;subst hz;have hx64:x<18446744073709551616:=Yc hx (by rcases hk with rfl | rfl | rfl | rfl <;> decide);have HP:=Za (fun w hA=>put_anyD A c l (k:Int) x w hA hx64 (by omega));rw [putR_ok l k x hk hx] at HP;have HA:=Za hA;have HL:=Za (p:=(l++leb x k).length=l.length+k) (by rw [Zf,leb_len]);clear hx64 hx hk hA hl;go_enter Tryz.func98,Tryz.ntmps98
  go_wp2_with (go_at_call 107;refine (HP.out _ HA.out).mono ?_;rintro e w1 ⟨v,rfl,ho,hb⟩;have HO:=Za ho
               have HB:=Za hb;clear ho hb)
  go_ret;have h1:=HO.out;rw [HL.out] at h1;obtain ⟨A1,c1,rfl⟩:=own8_sl h1;exact ⟨A1,c1,rfl,h1,HB.out⟩
structure Nice (e:Ent) (i k s:Nat):Prop where
  ino:e.ino=(i:Int)
  kind:e.kind=(k:Int)
  il:i<256
  kl:k<256
  ser:e.ser<18446744073709551616
  ck:e.ck<4294967296
  nm:e.nm.data.toList.length=s
  sl:s≤65535
theorem u64_nat (n:Nat) (h:n<18446744073709551616):IntKind.u64.wrap (n:Int)=(n:Int):=by
  simp [IntKind.wrap,IntKind.bits,IntKind.signed];omega
theorem packed_any (x:Ent) (i k s:Nat) (hn:Nice x i k s) (w:World):Calls Tryz.prog 97 #[.agg (ecs x).toArray] w (ByP w (16+s) (enb x)):=by
  obtain ⟨hi,hk,hil,hkl,hser,hck,hnm,hsl⟩:=hn;obtain ⟨l1,h1⟩:∃ l,[]++leb i 1=l:=⟨_,rfl⟩;obtain ⟨l2,h2⟩:∃ l,l1++leb k 1=l:=⟨_,rfl⟩;obtain ⟨l3,h3⟩:∃ l,l2++leb x.ser 8=l:=⟨_,rfl⟩;obtain ⟨l4,h4⟩:∃ l,l3++leb x.ck 4=l:=⟨_,rfl⟩;have q1:l1.length=1:=by rw [← h1];simp [leb_len]
  have q2:l2.length=2:=by rw [← h2];simp [leb_len,q1]
  have q3:l3.length=10:=by rw [← h3];simp [leb_len,q2]
  have q4:l4.length=14:=by rw [← h4];simp [leb_len,q3]
  have h5:enb x=l4++leb s 2++x.nm.data.toList:=by
    rw [← h4, ← h3, ← h2, ← h1];unfold enb;rw [hi,hk,hnm,Yf,Yf];simp only [Zt,Zi]
  rw [h5];have hsz:x.nm.size=s:=by rw [← hnm,Array.length_toList];rfl
  have N1:=Za (fun w=>dnumber_any none 0 0 [] 1 i 1 rfl rfl w (.inl rfl) (.inl rfl) (by omega) (by decide));rw [h1] at N1;have N2:=Za (fun (A:Option Addr) (c:Nat) w (hA:Hol w A l1)=>dnumber_any A c 1 l1 1 k 1 rfl q1.symm w hA (.inl rfl) (by omega) (by omega));rw [h2] at N2;have N3:=Za (fun (A:Option Addr) (c:Nat) w (hA:Hol w A l2)=>dnumber_any A c 2 l2 8 x.ser 8 rfl q2.symm w hA (.inr (.inr (.inr rfl))) (by omega) (by omega));rw [h3] at N3;have N4:=Za (fun (A:Option Addr) (c:Nat) w (hA:Hol w A l3)=>dnumber_any A c 10 l3 4 x.ck 4 rfl q3.symm w hA (.inr (.inr (.inl rfl))) (by omega) (by omega));rw [h4] at N4
  have N5:=Za (p:=∀ (A:Option Addr) (c:Nat) w (hA:Hol w A l4),Calls Tryz.prog 125 #[.slice A 14 c,.string x.nm] w fun e w'=>∃ A' c',e=.returned (.tuple #[.slice A' (16+s) c',.int .i64 0])∧w'.ownsRow w.heap.size 5 1 (.slice A' (16+s) c') (16+s) (bc (l4++leb s 2++x.nm.data.toList))∧Below w.heap.size w w') (fun A c w hA=>by
    have h:=txt_any A c l4 x.nm w hA (by omega) (by omega);have hr:txtR l4 x.nm.data.toList=(l4++leb s 2++x.nm.data.toList,0):=by unfold txtR;rw [hnm,if_neg (by omega)]
    rw [hr,q4] at h;refine h.mono ?_;rintro e w' ⟨v,rfl,ho,hb⟩
    dsimp only at ho;rw [show (l4++leb s 2++x.nm.data.toList).length=16+s by simp [leb_len,q4,hnm];omega] at ho;obtain ⟨A1,c1,rfl⟩:=own8_sl ho;exact ⟨A1,c1,rfl,ho,hb⟩)
  have HC:=Za (p:=∀ (w:World) (g:Nat),Row w g 61 (ecs x)→w.cell? ⟨g,0,none⟩=some (.string x.nm)∧w.cell? ⟨g,1,none⟩=some (.int .i64 (i:Int))∧w.cell? ⟨g,2,none⟩=some (.int .u64 (x.ser:Int))∧w.cell? ⟨g,3,none⟩=some (.int .i64 (k:Int))∧w.cell? ⟨g,4,none⟩=some (.int .u32 (x.ck:Int))) (fun w g h=>⟨by rw [h.cell];rfl,by rw [h.cell, ← hi];rfl,by rw [h.cell];rfl,by rw [h.cell, ← hk];rfl,by rw [h.cell];rfl⟩);have u1:=u64_nat i (by omega);have u2:=u64_nat k (by omega);have u3:=u64_nat x.ck (by omega);obtain ⟨nm,hnm2⟩:∃ b,x.nm=b:=⟨_,rfl⟩;obtain ⟨ser,hser2⟩:∃ b,x.ser=b:=⟨_,rfl⟩;obtain ⟨ck,hck2⟩:∃ b,x.ck=b:=⟨_,rfl⟩;obtain ⟨l5,hl5⟩:∃ l,l4++leb s 2++x.nm.data.toList=l:=⟨_,rfl⟩;rw [hl5] at N5 ⊢;rw [hnm2,hser2,hck2] at HC;rw [hnm2] at N5;rw [hser2] at N3;rw [hck2] at N4 u3;clear hi hk hil hkl hser hck hnm hsl h1 h2 h3 h4 h5 q1 q2 q3 q4 hsz hl5 hnm2 hser2 hck2;go_enter Tryz.func97,Tryz.ntmps97
  go_wp2_with (first
    | (refine step_box rfl 1 rfl 61 (.tmp 0) rfl (ecs x) rfl ?_;intro g w1 hr1 hg1 hb1 hs1;have R1:=Za hr1
       have B1:=Za hb1;obtain ⟨c0,c1,c2,c3,c4⟩:=HC.out w1 g hr1;clear hr1 hg1 hb1 hs1)
    | (go_at_call 98;refine (N1.out _).mono ?_;rintro e w2 ⟨A1,d1,rfl,ho,hb⟩;have O1:=Za (Hol.own ho)
       have R2:=Za (R1.out.kept hb);have B2:=Za (below_nxt hb B1.out);obtain ⟨c0,c1,c2,c3,c4⟩:=HC.out w2 g R2.out;clear ho hb N1)
    | (go_at_call 98;refine (N2.out _ _ _ O1.out).mono ?_;rintro e w3 ⟨A2,d2,rfl,ho,hb⟩;have O2:=Za (Hol.own ho)
       have R3:=Za (R2.out.kept hb);have B3:=Za (below_nxt hb B2.out);obtain ⟨c0,c1,c2,c3,c4⟩:=HC.out w3 g R3.out;clear ho hb N2)
    | (go_at_call 98;refine (N3.out _ _ _ O2.out).mono ?_;rintro e w4 ⟨A3,d3,rfl,ho,hb⟩;have O3:=Za (Hol.own ho)
       have R4:=Za (R3.out.kept hb);have B4:=Za (below_nxt hb B3.out);obtain ⟨c0,c1,c2,c3,c4⟩:=HC.out w4 g R4.out;clear ho hb N3)
    | (go_at_call 98;refine (N4.out _ _ _ O3.out).mono ?_;rintro e w5 ⟨A4,d4,rfl,ho,hb⟩;have O4:=Za (Hol.own ho)
       have R5:=Za (R4.out.kept hb);have B5:=Za (below_nxt hb B4.out);obtain ⟨c0,c1,c2,c3,c4⟩:=HC.out w5 g R5.out;clear ho hb N4)
    | (go_at_call 125;refine (N5.out _ _ _ O4.out).mono ?_;rintro e w6 ⟨A5,d5,rfl,ho,hb⟩;have O5:=Za (own_lower ho B5.out.size)
       have B6:=Za (below_nxt hb B5.out);clear ho hb N5))
  go_ret;exact ⟨A5,d5,rfl,O5.out,B6.out⟩
/- What the library is handed to put entries in order;whether a name is another one. Conditions:those named. -/
theorem bycmp_any (x y:Ent) (g:Nat) (w:World) (hc:w.cell? ⟨g,0,none⟩=some (Value.func (.func 93) #[] #[])):Calls Tryz.prog 121 #[.agg (ecs x).toArray,.agg (ecs y).toArray,.pointer (some ⟨g,0,none⟩)] w fun e w'=>e=.returned (.int .i64 (cmpv x.ck y.ck))∧Below w.heap.size w w':=by
  have HC:=Za hc;have HL:=Za (Ya w _ hc);have i1:=Za info_ent;clear hc;go_enter Tryz.func121,Tryz.ntmps121
  go_upto_region 1 with (first
    | (refine step_box rfl 3 rfl 61 (.tmp 0) rfl (ecs x) rfl ?_;intro g3 w2 hr2 hg2 hb2 hs2;have R3:=Za hr2
       have B2:=Za hb2;clear hr2 hg2 hb2 hs2)
    | (refine step_box rfl 4 rfl 61 (.tmp 1) rfl (ecs y) rfl ?_;intro g4 w3 hr2 hg2 hb2 hs2;have R33:=Za (R3.out.kept hb2)
       have R4:=Za hr2;have B3:=Za (below_nxt hb2 B2.out);clear hr2 hg2 hb2 hs2))
  have HSQ:=Za (p:=∀ W,Below w3.heap.size w3 W→W.cell? ⟨g,0,none⟩=some (Value.func (.func 93) #[] #[])∧W.rangeAt g3 0 (ecs x)∧W.rangeAt g4 0 (ecs y)) (fun W hb=>⟨((below_nxt hb B3.out).cell (p:=⟨g,0,none⟩) HL.out).trans HC.out,(R33.out.kept hb).all,(R4.out.kept hb).all⟩);refine Zq (S:=fun W=>W.cell? ⟨g,0,none⟩=some (Value.func (.func 93) #[] #[])∧W.rangeAt g3 0 (ecs x)∧W.rangeAt g4 0 (ecs y)) (by kernel_rfl) (HSQ.out _ (below_drw w3)) (fun hHeld=>?_);refine Ze (i:=0) (oi:=⟨some 6,.load 155 (.tmp 2),_,_,_,_⟩) (v:=(Value.func (.func 93) #[] #[])) rfl (by kernel_rfl) (by kernel_rfl) (by kernel_rfl) (fun _ _ _ h=>h) (.inl ⟨by rfl,fun w hSw=>by have z:=hSw.1;go_simp⟩) (by assumption) ?_;simp only [Act.put,Zb,Zc,Zd];refine Ze (i:=1) (oi:=⟨some 7,.load 61 (.tmp 3),_,_,_,_⟩) (v:=.agg (ecs x).toArray) rfl (by kernel_rfl) (by kernel_rfl) (by kernel_rfl) (fun _ _ _ h=>h) (Yb (by rfl) 61 (.tmp 3) rfl g3 0 rfl (ecs x) _ (fun w hSw=>hSw.2.1) Yi rfl (i1.out _)) (by assumption) ?_;simp only [Act.put,Zb,Zc,Zd];refine Ze (i:=3) (oi:=⟨some 9,.load 155 (.tmp 2),_,_,_,_⟩) (v:=(Value.func (.func 93) #[] #[])) rfl (by kernel_rfl) (by kernel_rfl) (by kernel_rfl) (fun _ _ _ h=>h) (.inl ⟨by rfl,fun w hSw=>by have z:=hSw.1;go_simp⟩) (by assumption) ?_;simp only [Act.put,Zb,Zc,Zd];refine Ze (i:=4) (oi:=⟨some 10,.load 61 (.tmp 4),_,_,_,_⟩) (v:=.agg (ecs y).toArray) rfl (by kernel_rfl) (by kernel_rfl) (by kernel_rfl) (fun _ _ _ h=>h) (Yb (by rfl) 61 (.tmp 4) rfl g4 0 rfl (ecs y) _ (fun w hSw=>hSw.2.2) Yi rfl (i1.out _)) (by assumption) ?_;simp only [Act.put,Zb,Zc,Zd];refine Zp (rs:=[2]) (by kernel_rfl) (by simp) ?_;refine Zl (o:=⟨some 8,.call ⟨.value (.tmp 6),#[.tmp 7],_⟩,_,_,_,_⟩) rfl (fun K hK=>?_) Zo;go_simp;go_at_call 93;refine (ckey_any x _).mono ?_;rintro e q1 ⟨rfl,hb⟩;have hb1:Below w3.heap.size w3 q1:=(below_nxt hb (below_drw w3));have B1_:=hb1;refine hK.out _ _ (HSQ.out _ hb1) (fun _h1=>?_);clear hK K;refine Zp (rs:=[5]) (by kernel_rfl) (by simp) ?_;refine Zl (o:=⟨some 11,.call ⟨.value (.tmp 9),#[.tmp 10],_⟩,_,_,_,_⟩) rfl (fun K hK=>?_) Zo;go_simp;go_at_call 93;refine (ckey_any y _).mono ?_;rintro e q2 ⟨rfl,hb⟩;have hb2:Below w3.heap.size w3 q2:=(below_nxt hb B1_);have B2_:=hb2;refine hK.out _ _ (HSQ.out _ hb2) (fun _h2=>?_);clear hK K;refine Zp (rs:=[6]) (by kernel_rfl) (by simp) ?_;refine Zl (o:=⟨some 12,.call ⟨.value (.func 122),#[.tmp 8,.tmp 11],_⟩,_,_,_,_⟩) rfl (fun K hK=>?_) Zo;go_simp;go_at_call 122;refine (compare_any x.ck y.ck _).mono ?_;rintro e q3 ⟨rfl,rfl⟩;have hb3:Below w3.heap.size w3 q2:=B2_;have B3_:=hb3;refine hK.out _ _ (HSQ.out _ hb3) (fun _h3=>?_);clear hK K;refine Ze (i:=7) (oi:=⟨some 5,.assign (.tmp 12),_,_,_,_⟩) (v:=.int .i64 (cmpv x.ck y.ck)) rfl (by kernel_rfl) (by kernel_rfl) (by kernel_rfl) (fun _ _ _ h=>h) (.inl ⟨by rfl,fun w hSw=>by go_simp⟩) (by assumption) ?_;simp only [Act.put,Zb,Zc,Zd];refine Yg (by kernel_rfl) ?_ _;have B9:=Za B3_;go_wp2;go_ret;exact ⟨rfl,below_nxt B9.out B3.out⟩
/- A row of entries of the call's own:loaded,stored;two of them exchanged;two runs of them exchanged. Conditions:those named. -/
def setLD:List Value→Nat→List Value→List Value
  | L,_,[]=>L
  | L,o,v::r=>setLD (L.set o v) (o+1) r
theorem Row.setsD {g:Nat} {t:TypeId}:∀ (vs:List Value) (o:Nat) {w:World} {L:List Value},Row w g t L→Row (w.setCells g o vs) g t (setLD L o vs)
  | [],_,_,_,h=>h
  | v::r,o,w,L,h=>Row.setsD r (o+1) (h.put o v)
theorem setL_midD (B:List Value):∀ (vs M A:List Value),M.length=vs.length→setLD (A++(M++B)) A.length vs=A++(vs++B)
  | [],M,A,h=>by
    rw [List.length_nil] at h;rw [Zk h];rfl
  | v::r,[],A,h=>by simp at h
  | v ::r,m::M,A,h=>by
    have h1:=setL_midD B r M (A++[v]) (by simpa using h)
    have h2:(A++(m::M++B)).set A.length v=A++[v]++(M++B):=by
      rw [List.set_append_right _ _ (Zj _)];simp
    unfold setLD;rw [h2];rw [Zf,List.length_singleton] at h1;rw [h1];simp
theorem grown_setsD (g:Nat):∀ (vs:List Value) (o:Nat) (w:World),w.grownBy (w.setCells g o vs) (some g)
  | [],_,w=>⟨rfl,rfl,rfl,Zj _,fun _ _ _=>rfl⟩
  | v::r,o,w=>grown_trans (grown_set w ⟨g,o,none⟩ v) (grown_setsD g r (o+1) _)
theorem Chg.oneD {g:Nat} {w w':World} (h:w.grownBy w' (some g)):Chg [g] w w':=(Chg.refl _ _).grown h (fun k hk=>by injection hk with hk;subst hk;exact .inl (by simp))
def ER (w:World) (g:Nat) (xs:List Ent) (Z:List Value):Prop:=Row w g 61 (xs.flatMap ecs++Z)
section
variable {w w':World} {g:Nat} {xs:List Ent} {Z:List Value} {i:Nat} {x y:Ent}
theorem ecs_at {xs:List Ent} {i:Nat} {x:Ent} (hx:xs[i]?=some x):xs.flatMap ecs=(xs.take i).flatMap ecs++(ecs x++(xs.drop (i+1)).flatMap ecs):=by
  obtain ⟨hi,h9⟩:=Zn.1 hx;have e1:xs=xs.take i++x::xs.drop (i+1):=by rw [← h9,List.getElem_cons_drop,List.take_append_drop]
  have e2:=congrArg (·.flatMap ecs) e1;simp only [List.flatMap_append,List.flatMap_cons] at e2;exact e2
theorem ecs_take {xs:List Ent} {i:Nat} (hi:i≤xs.length):((xs.take i).flatMap ecs).length=i*5:=by rw [flat_len ecs_len,Zu];omega
theorem ER.at_ (h:ER w g xs Z) (hx:xs[i]?=some x):w.rangeAt g (i*5) (ecs x):=by
  have hi:=(Zn.1 hx).1;unfold ER at h;rw [ecs_at hx,Zi,Zi] at h;intro j v hv;have hj:j<(ecs x).length:=(Zn.1 hv).1;rw [h.cell,Zm (by rw [ecs_take (by omega)];omega),ecs_take (by omega),Nat.add_sub_cancel_left,Zv hj];exact hv
theorem ER.ck (h:ER w g xs Z) (hx:xs[i]?=some x):w.cell? ⟨g,i*5+4,none⟩=some (.int .u32 (x.ck:Int)):=h.at_ hx 4 _ rfl
theorem ER.kept (h:ER w g xs Z) (hb:Below w.heap.size w w'):ER w' g xs Z:=Row.kept h hb
theorem ER.lt (h:ER w g xs Z):g<w.heap.size:=Row.lt h
theorem ER.store (h:ER w g xs Z) (hi:i<xs.length) (e:Ent):ER (w.setCells g (i*5) (ecs e)) g (xs.set i e) Z:=by
  have hx:xs[i]?=some xs[i]:=Zh hi;have hy:(xs.set i e)[i]?=some e:=by rw [List.getElem?_set_self hi]
  unfold ER at h ⊢;rw [ecs_at hx,Zi,Zi] at h;have h1:=h.setsD (ecs e) (i*5);have h2:=setL_midD ((xs.drop (i+1)).flatMap ecs++Z) (ecs e) (ecs xs[i]) ((xs.take i).flatMap ecs) rfl;rw [ecs_take (by omega)] at h2;rw [h2] at h1;rw [ecs_at hy,Zi,Zi,List.take_set_of_le (Zj _),List.drop_set_of_lt (Nat.lt_succ_self _)];exact h1
end
section
variable {ops:Array Oper} {rest:List Oper} {o:Oper} {a:Act} {w:World} {Q:Exit→Act→World→Prop} {K:Act→World→Prop}
end
section
variable {ops:Array Oper} {o:Oper} {a:Act} {w:World} {Q:Exit→Act→World→Prop} {K:Act→World→Prop} {E:Prop}
theorem st_load_ent (hw:Region.wanted o (yielded ops a.tmps)=true) (x:Operand) (ho:o.op=.load 61 x) (g i:Nat) (hx:a.eval x=.pointer (some ⟨g,i*5,none⟩)) (xs:List Ent) (Z:List Value) (e:Ent) (hr:ER w g xs Z) (hi:xs[i]?=some e)
    (h:K (a.put o.dst (.agg (ecs e).toArray)) w):if Region.wanted o (yielded ops a.tmps)=true then Oper.wp Tryz.prog o a w K Q else E:=by
  rw [if_pos hw];exact wp_load_mid 61 x ho g (i*5) hx (ecs e) _ (hr.at_ hi) Yi rfl (info_ent e) h
theorem st_put_ent (hw:Region.wanted o (yielded ops a.tmps)=true) (x y:Operand) (ho:o.op=.store 61 x y) (g i:Nat) (hx:a.eval x=.pointer (some ⟨g,i*5,none⟩)) (e:Ent) (hy:a.eval y=.agg (ecs e).toArray) (xs:List Ent) (Z:List Value)
    (hr:ER w g xs Z) (hi:i<xs.length) (h:∀ w',ER w' g (xs.set i e) Z→w.grownBy w' (some g)→K (a.put o.dst undef) w'):if Region.wanted o (yielded ops a.tmps)=true then Oper.wp Tryz.prog o a w K Q else E:=by
  rw [if_pos hw];have hx0:xs[i]?=some xs[i]:=Zh hi;refine wp_store_mid 61 x y ho g (i*5) (ecs e).toArray hx hy ?_ (by simpa using info_ent e) (all_oneCell_toArray (ecs_one e)) ?_
  · have hr':Row w g 61 ((xs.take i).flatMap ecs++(ecs xs[i]++((xs.drop (i+1)).flatMap ecs++Z))):=by
      have h1:=hr;unfold ER at h1;rw [ecs_at hx0,Zi,Zi] at h1;exact h1
    have h2:=hr'.is_there (i*5) (ecs e).length (by rw [Zf,ecs_take (by omega),Zf,ecs_len,ecs_len];omega);simpa using h2
  · exact h _ (by simpa using hr.store hi e) (grown_setsD g _ _ w)
end
def swp (xs:List Ent) (i j:Nat) (x y:Ent):List Ent:=(xs.set i y).set j x
/- Two runs of entries of a row,exchanged:swapRange. Conditions:the runs lie in the row,apart. -/
theorem swp_mid (A B C:List Ent) (x y:Ent) (i j:Nat) (hi:A.length=i) (hj:i+1+B.length=j):swp (A++x::(B++y::C)) i j x y=A++y::(B++x::C):=by
  subst hi hj;unfold swp;rw [List.set_append_right _ _ (Zj _),Nat.sub_self,Zc,List.set_append_right _ _ (by omega),show A.length+1+B.length - A.length=B.length+1 by omega,Zd,List.set_append_right _ _ (Zj _),Nat.sub_self,Zc]
def xch (P X M Y S:List Ent) (i:Nat):List Ent:=P++((Y.take i++X.drop i)++(M++((X.take i++Y.drop i)++S)))
theorem xch_zero (P X M Y S:List Ent):xch P X M Y S 0=P++(X++(M++(Y++S))):=by simp [xch]
theorem xch_all (P X M Y S:List Ent) (k:Nat) (hX:X.length=k) (hY:Y.length=k):xch P X M Y S k=P++(Y++(M++(X++S))):=by
  unfold xch;rw [Zz (by omega),Zz (by omega),List.drop_of_length_le (by omega),List.drop_of_length_le (by omega),Zy,Zy]
theorem xch_split (P X M Y S:List Ent) (k i:Nat) (hX:X.length=k) (hY:Y.length=k) (hi:i<k):∃ x y B,X[i]?=some x∧Y[i]?=some y∧B.length=k - 1+M.length∧
    xch P X M Y S i=(P++Y.take i)++x::(B++y::(Y.drop (i+1)++S))∧xch P X M Y S (i+1)=(P++Y.take i)++y::(B++x::(Y.drop (i+1)++S)):=by
  have hx:i<X.length:=by omega
  have hy:i<Y.length:=by omega
  refine ⟨X[i],Y[i],X.drop (i+1)++(M++X.take i),Zh hx,Zh hy,?_,?_,?_⟩
  · simp only [Zf,Zs,Zu];omega
  · unfold xch;rw [← List.getElem_cons_drop hx, ← List.getElem_cons_drop hy];simp only [Zi,List.cons_append]
  · unfold xch;rw [List.take_succ_eq_append_getElem hx,List.take_succ_eq_append_getElem hy];simp only [Zi,List.cons_append,Zt]
theorem xch_len (P X M Y S:List Ent) (k i:Nat) (hX:X.length=k) (hY:Y.length=k) (hi:i≤k):(xch P X M Y S i).length=P.length+k+M.length+k+S.length:=by
  unfold xch;simp only [Zf,Zu,Zs];omega
theorem swaprange_any (gr n cp a b k:Nat) (F:Value) (P X M Y S:List Ent) (Z:List Value) (hX:X.length=k) (hY:Y.length=k) (ha:P.length=a) (hb:a+k+M.length=b) (hn:a+k+M.length+k+S.length=n) (hmax:n≤1000000) (w:World)
    (h:ER w gr (P++(X++(M++(Y++S)))) Z):Calls Tryz.prog 163 #[.slice (some ⟨gr,0,none⟩) n cp,.int .i64 (a:Int),.int .i64 (b:Int),.int .i64 (k:Int),F] w fun e w'=>e=.returned (.tuple #[])∧ER w' gr (P++(Y++(M++(X++S)))) Z∧Chg [gr] w w':=by
  have H:=Za h;have HX:=Za (p:=X.length=k∧Y.length=k∧P.length=a∧a+k+M.length=b∧a+k+M.length+k+S.length=n∧n≤1000000) ⟨hX,hY,ha,hb,hn,hmax⟩;have i1:=Za info_ent;clear h hX hY ha hb hn hmax;go_enter Tryz.func163,Tryz.ntmps163;go_wp2;go_loopw [10] (fun x wr=>∃ i:Nat,Hid (i≤k)∧x=.int .i64 (i:Int)∧Hid (ER wr gr (xch P X M Y S i) Z)∧Hid (Chg [gr] w wr)) (fun x _=>k - (intOf x).toNat)
  case atStart=>exact ⟨0,Za (Nat.zero_le _),rfl,Za (by rw [xch_zero];exact H.out),Za (Chg.refl _ _)⟩
  case round=>
    obtain ⟨i,HI,rfl,HR,HC⟩:=hrel
    rename World=>wo;by_cases hi:i<k
    · have hii:(i:Int)<(k:Int):=by omega
      have hiw:IntKind.i64.wrap ((i:Int)+1)=(i:Int)+1:=by rw [Zg];have:=HX.out;omega
      obtain ⟨x,y,B,hx,hy,hB,e1,e2⟩:=xch_split P X M Y S k i HX.out.1 HX.out.2.1 hi;obtain ⟨p,hp⟩:∃ p,a+i=p:=⟨_,rfl⟩;obtain ⟨q,hq⟩:∃ q,b+i=q:=⟨_,rfl⟩;have hpl:(P++Y.take i).length=p:=by rw [Zf,Zu,HX.out.2.1,HX.out.2.2.1];omega
      have hqp:p+1+B.length=q:=by have:=HX.out;omega
      have HPQ:=Za (p:=p<n∧q<n) (by have:=HX.out;omega);have hpw:IntKind.i64.wrap ((a:Int)+(i:Int))=(p:Int):=by rw [Zg];have:=HX.out;omega
      have hqw:IntKind.i64.wrap ((b:Int)+(i:Int))=(q:Int):=by rw [Zg];have:=HX.out;omega
      have hpn:(p:Int)<(n:Int):=by have:=HPQ.out;omega
      have hqn:(q:Int)<(n:Int):=by have:=HPQ.out;omega
      rw [e1] at HR;have HL:=Za (p:=((P++Y.take i)++x::(B++y::(Y.drop (i+1)++S))).length=n) (by rw [← e1,xch_len P X M Y S k i HX.out.1 HX.out.2.1 HI.out];have:=HX.out;omega);have HG1:=Za (p:=((P++Y.take i)++x::(B++y::(Y.drop (i+1)++S)))[p]?=some x) (by rw [← hpl,Zm (Zj _),Nat.sub_self];rfl)
      have HG2:=Za (p:=((P++Y.take i)++x::(B++y::(Y.drop (i+1)++S)))[q]?=some y) (by
        rw [Zm (by omega),hpl,show q - p=B.length+1 by omega,List.getElem?_cons_succ,Zm (Zj _),Nat.sub_self];rfl)
      have HS:=Za (swp_mid (P++Y.take i) B (Y.drop (i+1)++S) x y p q hpl hqp);have HE2:=Za e2;have HII:=Za hi;clear hx hy hB e1 e2 hp hq hpl hqp hi;generalize (P++Y.take i)++x::(B++y::(Y.drop (i+1)++S))=cur at HR HL HG1 HG2 HS;go_upto_region 3 with fail
      have HRd:=Za (HR.out.kept (below_drw wo));have HCd:=Za (HC.out.drew);have HGi:=HG1;have HGj:=HG2;have HLi:=Za (p:=p<cur.length) (by rw [HL.out];exact HPQ.out.1);have HLj:=Za (p:=q<cur.length) (by rw [HL.out];exact HPQ.out.2);refine Zq (S:=fun _=>True) (by kernel_rfl) trivial (fun hHeld=>?_);refine Ze (i:=0) (oi:=⟨some 16,.move (.tmp 0),_,_,_,_⟩) (v:=.slice (some ⟨gr,0,none⟩) n cp) rfl (by kernel_rfl) (by kernel_rfl) (by kernel_rfl) (fun _ _ _ h=>h) (.inl ⟨by rfl,fun w hSw=>by go_simp⟩) (by assumption) ?_;simp only [Act.put,Zb,Zc,Zd];refine Ze (i:=1) (oi:=⟨some 17,.move (.tmp 1),_,_,_,_⟩) (v:=.int .i64 (a:Int)) rfl (by kernel_rfl) (by kernel_rfl) (by kernel_rfl) (fun _ _ _ h=>h) (.inl ⟨by rfl,fun w hSw=>by go_simp⟩) (by assumption) ?_;simp only [Act.put,Zb,Zc,Zd];refine Ze (i:=2) (oi:=⟨some 18,.move (.tmp 10),_,_,_,_⟩) (v:=.int .i64 (i:Int)) rfl (by kernel_rfl) (by kernel_rfl) (by kernel_rfl) (fun _ _ _ h=>h) (.inl ⟨by rfl,fun w hSw=>by go_simp⟩) (by assumption) ?_;simp only [Act.put,Zb,Zc,Zd];refine Ze (i:=3) (oi:=⟨some 19,.binOp .add 3 (.tmp 17) (.tmp 18) 3,_,_,_,_⟩) (v:=.int .i64 (p:Int)) rfl (by kernel_rfl) (by kernel_rfl) (by kernel_rfl) (fun _ _ _ h=>h) (.inl ⟨by rfl,fun w hSw=>by go_simp⟩) (by assumption) ?_;simp only [Act.put,Zb,Zc,Zd];refine Ze (i:=4) (oi:=⟨some 20,.move (.tmp 0),_,_,_,_⟩) (v:=.slice (some ⟨gr,0,none⟩) n cp) rfl (by kernel_rfl) (by kernel_rfl) (by kernel_rfl) (fun _ _ _ h=>h) (.inl ⟨by rfl,fun w hSw=>by go_simp⟩) (by assumption) ?_;simp only [Act.put,Zb,Zc,Zd];refine Ze (i:=5) (oi:=⟨some 21,.move (.tmp 2),_,_,_,_⟩) (v:=.int .i64 (b:Int)) rfl (by kernel_rfl) (by kernel_rfl) (by kernel_rfl) (fun _ _ _ h=>h) (.inl ⟨by rfl,fun w hSw=>by go_simp⟩) (by assumption) ?_;simp only [Act.put,Zb,Zc,Zd];refine Ze (i:=6) (oi:=⟨some 22,.move (.tmp 10),_,_,_,_⟩) (v:=.int .i64 (i:Int)) rfl (by kernel_rfl) (by kernel_rfl) (by kernel_rfl) (fun _ _ _ h=>h) (.inl ⟨by rfl,fun w hSw=>by go_simp⟩) (by assumption) ?_;simp only [Act.put,Zb,Zc,Zd];refine Ze (i:=7) (oi:=⟨some 23,.binOp .add 3 (.tmp 21) (.tmp 22) 3,_,_,_,_⟩) (v:=.int .i64 (q:Int)) rfl (by kernel_rfl) (by kernel_rfl) (by kernel_rfl) (fun _ _ _ h=>h) (.inl ⟨by rfl,fun w hSw=>by go_simp⟩) (by assumption) ?_;simp only [Act.put,Zb,Zc,Zd];refine Ze (i:=8) (oi:=⟨some 24,.move (.tmp 0),_,_,_,_⟩) (v:=.slice (some ⟨gr,0,none⟩) n cp) rfl (by kernel_rfl) (by kernel_rfl) (by kernel_rfl) (fun _ _ _ h=>h) (.inl ⟨by rfl,fun w hSw=>by go_simp⟩) (by assumption) ?_;simp only [Act.put,Zb,Zc,Zd];refine Ze (i:=9) (oi:=⟨some 25,.move (.tmp 2),_,_,_,_⟩) (v:=.int .i64 (b:Int)) rfl (by kernel_rfl) (by kernel_rfl) (by kernel_rfl) (fun _ _ _ h=>h) (.inl ⟨by rfl,fun w hSw=>by go_simp⟩) (by assumption) ?_;simp only [Act.put,Zb,Zc,Zd];refine Ze (i:=10) (oi:=⟨some 26,.move (.tmp 10),_,_,_,_⟩) (v:=.int .i64 (i:Int)) rfl (by kernel_rfl) (by kernel_rfl) (by kernel_rfl) (fun _ _ _ h=>h) (.inl ⟨by rfl,fun w hSw=>by go_simp⟩) (by assumption) ?_;simp only [Act.put,Zb,Zc,Zd];refine Ze (i:=11) (oi:=⟨some 27,.binOp .add 3 (.tmp 25) (.tmp 26) 3,_,_,_,_⟩) (v:=.int .i64 (q:Int)) rfl (by kernel_rfl) (by kernel_rfl) (by kernel_rfl) (fun _ _ _ h=>h) (.inl ⟨by rfl,fun w hSw=>by go_simp⟩) (by assumption) ?_;simp only [Act.put,Zb,Zc,Zd];refine Ze (i:=12) (oi:=⟨some 28,.indexAddr 46 (.tmp 24) (.tmp 27),_,_,_,_⟩) (v:=.pointer (some ⟨gr,q*5,none⟩)) rfl (by kernel_rfl) (by kernel_rfl) (by kernel_rfl) (fun _ _ _ h=>h) (.inl ⟨by rfl,fun w hSw=>by go_simp⟩) (by assumption) ?_;simp only [Act.put,Zb,Zc,Zd];refine Ze (i:=14) (oi:=⟨some 30,.move (.tmp 0),_,_,_,_⟩) (v:=.slice (some ⟨gr,0,none⟩) n cp) rfl (by kernel_rfl) (by kernel_rfl) (by kernel_rfl) (fun _ _ _ h=>h) (.inl ⟨by rfl,fun w hSw=>by go_simp⟩) (by assumption) ?_;simp only [Act.put,Zb,Zc,Zd];refine Ze (i:=15) (oi:=⟨some 31,.move (.tmp 1),_,_,_,_⟩) (v:=.int .i64 (a:Int)) rfl (by kernel_rfl) (by kernel_rfl) (by kernel_rfl) (fun _ _ _ h=>h) (.inl ⟨by rfl,fun w hSw=>by go_simp⟩) (by assumption) ?_;simp only [Act.put,Zb,Zc,Zd];refine Ze (i:=16) (oi:=⟨some 32,.move (.tmp 10),_,_,_,_⟩) (v:=.int .i64 (i:Int)) rfl (by kernel_rfl) (by kernel_rfl) (by kernel_rfl) (fun _ _ _ h=>h) (.inl ⟨by rfl,fun w hSw=>by go_simp⟩) (by assumption) ?_;simp only [Act.put,Zb,Zc,Zd];refine Ze (i:=17) (oi:=⟨some 33,.binOp .add 3 (.tmp 31) (.tmp 32) 3,_,_,_,_⟩) (v:=.int .i64 (p:Int)) rfl (by kernel_rfl) (by kernel_rfl) (by kernel_rfl) (fun _ _ _ h=>h) (.inl ⟨by rfl,fun w hSw=>by go_simp⟩) (by assumption) ?_;simp only [Act.put,Zb,Zc,Zd];refine Ze (i:=18) (oi:=⟨some 34,.indexAddr 46 (.tmp 30) (.tmp 33),_,_,_,_⟩) (v:=.pointer (some ⟨gr,p*5,none⟩)) rfl (by kernel_rfl) (by kernel_rfl) (by kernel_rfl) (fun _ _ _ h=>h) (.inl ⟨by rfl,fun w hSw=>by go_simp⟩) (by assumption) ?_;simp only [Act.put,Zb,Zc,Zd];refine Zp (rs:=[13,19]) (by kernel_rfl) (by simp) ?_;refine Zl (o:=⟨some 29,.load 61 (.tmp 28),_,_,_,_⟩) rfl (fun K hK=>?_) (Zl (o:=⟨some 35,.load 61 (.tmp 34),_,_,_,_⟩) rfl (fun K hK=>?_) Zo)
      · skip;refine st_load_ent (by rfl) (.tmp 28) rfl gr q rfl cur Z y HRd.out HGj.out ?_;refine hK.out _ _ trivial (fun _hs=>?_);clear hK K;refine Zp (rs:=[19]) (by kernel_rfl) (by simp) ?_;refine Zl (o:=⟨some 35,.load 61 (.tmp 34),_,_,_,_⟩) rfl (fun K hK=>?_) Zo;refine st_load_ent (by rfl) (.tmp 34) rfl gr p rfl cur Z x HRd.out HGi.out ?_;refine hK.out _ _ trivial (fun _hs=>?_);clear hK K;refine Ze (i:=20) (oi:=⟨some 36,.indexAddr 46 (.tmp 16) (.tmp 19),_,_,_,_⟩) (v:=.pointer (some ⟨gr,p*5,none⟩)) rfl (by kernel_rfl) (by kernel_rfl) (by kernel_rfl) (fun _ _ _ h=>h) (.inl ⟨by rfl,fun w hSw=>by go_simp⟩) (by assumption) ?_;simp only [Act.put,Zb,Zc,Zd];refine Zp (rs:=[21]) (by kernel_rfl) (by simp) ?_;refine Zl (o:=⟨none,.store 61 (.tmp 36) (.tmp 29),_,_,_,_⟩) rfl (fun K hK=>?_) Zo;refine st_put_ent (by rfl) (.tmp 36) (.tmp 29) rfl gr p rfl y rfl cur Z HRd.out HLi.out ?_;intro w2 hr2 hg2;have HR2:=Za hr2;have HC2:=Za (HCd.out.trans (Chg.oneD hg2) (fun z hz=>.inl hz));clear hr2 hg2;refine hK.out _ _ trivial (fun _hs=>?_);clear hK K;refine Ze (i:=22) (oi:=⟨some 37,.indexAddr 46 (.tmp 20) (.tmp 23),_,_,_,_⟩) (v:=.pointer (some ⟨gr,q*5,none⟩)) rfl (by kernel_rfl) (by kernel_rfl) (by kernel_rfl) (fun _ _ _ h=>h) (.inl ⟨by rfl,fun w hSw=>by go_simp⟩) (by assumption) ?_;simp only [Act.put,Zb,Zc,Zd];refine Zp (rs:=[23]) (by kernel_rfl) (by simp) ?_;refine Zl (o:=⟨none,.store 61 (.tmp 37) (.tmp 35),_,_,_,_⟩) rfl (fun K hK=>?_) Zo;refine st_put_ent (by rfl) (.tmp 37) (.tmp 35) rfl gr q rfl x rfl _ Z HR2.out (by rw [List.length_set];exact HLj.out) ?_;intro w3 hr2 hg2;have HR3:=Za (p:=ER w3 gr (swp cur p q x y) Z) hr2;have HC3:=Za (HC2.out.trans (Chg.oneD hg2) (fun z hz=>.inl hz));clear hr2 hg2;refine hK.out _ _ trivial (fun _hs=>?_);clear hK K;refine Yg (by kernel_rfl) ?_ _;go_wp2_with fail;go_roundw
        case rel=>exact ⟨i+1,HII,by go_num,Za (by rw [HE2.out, ← HS.out];exact HR3.out),HC3⟩
        case measure=>have:=HII.out;simp [intOf];omega
      · skip;refine st_load_ent (by rfl) (.tmp 34) rfl gr p rfl cur Z x HRd.out HGi.out ?_;refine hK.out _ _ trivial (fun _hs=>?_);clear hK K;refine Zp (rs:=[13]) (by kernel_rfl) (by simp) ?_;refine Zl (o:=⟨some 29,.load 61 (.tmp 28),_,_,_,_⟩) rfl (fun K hK=>?_) Zo;refine st_load_ent (by rfl) (.tmp 28) rfl gr q rfl cur Z y HRd.out HGj.out ?_;refine hK.out _ _ trivial (fun _hs=>?_);clear hK K;refine Ze (i:=20) (oi:=⟨some 36,.indexAddr 46 (.tmp 16) (.tmp 19),_,_,_,_⟩) (v:=.pointer (some ⟨gr,p*5,none⟩)) rfl (by kernel_rfl) (by kernel_rfl) (by kernel_rfl) (fun _ _ _ h=>h) (.inl ⟨by rfl,fun w hSw=>by go_simp⟩) (by assumption) ?_;simp only [Act.put,Zb,Zc,Zd];refine Zp (rs:=[21]) (by kernel_rfl) (by simp) ?_;refine Zl (o:=⟨none,.store 61 (.tmp 36) (.tmp 29),_,_,_,_⟩) rfl (fun K hK=>?_) Zo;refine st_put_ent (by rfl) (.tmp 36) (.tmp 29) rfl gr p rfl y rfl cur Z HRd.out HLi.out ?_;intro w2 hr2 hg2;have HR2:=Za hr2;have HC2:=Za (HCd.out.trans (Chg.oneD hg2) (fun z hz=>.inl hz));clear hr2 hg2;refine hK.out _ _ trivial (fun _hs=>?_);clear hK K;refine Ze (i:=22) (oi:=⟨some 37,.indexAddr 46 (.tmp 20) (.tmp 23),_,_,_,_⟩) (v:=.pointer (some ⟨gr,q*5,none⟩)) rfl (by kernel_rfl) (by kernel_rfl) (by kernel_rfl) (fun _ _ _ h=>h) (.inl ⟨by rfl,fun w hSw=>by go_simp⟩) (by assumption) ?_;simp only [Act.put,Zb,Zc,Zd];refine Zp (rs:=[23]) (by kernel_rfl) (by simp) ?_;refine Zl (o:=⟨none,.store 61 (.tmp 37) (.tmp 35),_,_,_,_⟩) rfl (fun K hK=>?_) Zo;refine st_put_ent (by rfl) (.tmp 37) (.tmp 35) rfl gr q rfl x rfl _ Z HR2.out (by rw [List.length_set];exact HLj.out) ?_;intro w3 hr2 hg2;have HR3:=Za (p:=ER w3 gr (swp cur p q x y) Z) hr2;have HC3:=Za (HC2.out.trans (Chg.oneD hg2) (fun z hz=>.inl hz));clear hr2 hg2;refine hK.out _ _ trivial (fun _hs=>?_);clear hK K;refine Yg (by kernel_rfl) ?_ _;go_wp2_with fail;go_roundw
        case rel=>exact ⟨i+1,HII,by go_num,Za (by rw [HE2.out, ← HS.out];exact HR3.out),HC3⟩
        case measure=>have:=HII.out;simp [intOf];omega
    · have hiz:¬ (i:Int)<(k:Int):=by omega
      have hik:i=k:=by have:=HI.out;omega
      subst hik;clear hi;go_wp2;go_end0;exact ⟨rfl,by rw [← xch_all P X M Y S i HX.out.1 HX.out.2.1];exact HR.out,HC.out⟩
/- Two neighbouring runs of a row's entries,exchanged:rotate. Conditions:neither is empty. -/
theorem rotate_any (gr n cp a m b:Nat) (F:Value) (P X Y S:List Ent) (Z:List Value) (hP:P.length=a) (hX:a+X.length=m) (hY:m+Y.length=b) (hn:b+S.length=n) (hx0:0<X.length) (hy0:0<Y.length) (hmax:n≤1000000) (w:World)
    (h:ER w gr (P++(X++(Y++S))) Z):Calls Tryz.prog 151 #[.slice (some ⟨gr,0,none⟩) n cp,.int .i64 (a:Int),.int .i64 (m:Int),.int .i64 (b:Int),F] w fun e w'=>e=.returned (.tuple #[])∧ER w' gr (P++(Y++(X++S))) Z∧Chg [gr] w w':=by
  have H:=Za h;obtain ⟨T,hT⟩:∃ T,P++(Y++(X++S))=T:=⟨_,rfl⟩;obtain ⟨i0,hi0⟩:∃ i0,X.length=i0:=⟨_,rfl⟩;obtain ⟨j0,hj0⟩:∃ j0,Y.length=j0:=⟨_,rfl⟩;rw [hi0] at hX hx0;rw [hj0] at hY hy0;have HX:=Za (p:=P.length=a∧X.length=i0∧Y.length=j0∧a+i0=m∧m+j0=b∧b+S.length=n∧n≤1000000∧0<i0∧0<j0) ⟨hP,hi0,hj0,hX,hY,hn,hmax,hx0,hy0⟩;have HT:=Za hT;rw [hT];have hw1:IntKind.i64.wrap ((m:Int) - (a:Int))=(i0:Int):=by rw [Zg];omega
  have hw2:IntKind.i64.wrap ((b:Int) - (m:Int))=(j0:Int):=by rw [Zg];omega
  clear h hT hi0 hj0 hX hx0 hY hy0 hP hn hmax;go_enter Tryz.func151,Tryz.ntmps151;go_wp2;go_loopw [10,11] (fun x y wr=>∃ (i j:Nat) (P X Y S:List Ent),x=.int .i64 (i:Int)∧y=.int .i64 (j:Int)∧Hid (X.length=i∧Y.length=j∧0<i∧0<j∧P.length+i=m∧m+j+S.length=n)∧Hid (P++(Y++(X++S))=T)∧Hid (ER wr gr (P++(X++(Y++S))) Z)∧Hid (Chg [gr] w wr)) (fun x y _=>(intOf x).toNat+(intOf y).toNat)
  case atStart=>exact ⟨i0,j0,P,X,Y,S,rfl,rfl,Za (by have:=HX.out;omega),HT,H,Za (Chg.refl _ _)⟩
  case round=>
    clear H HT hw1 hw2;obtain ⟨i,j,P,X,Y,S,rfl,rfl,HL,HT,HR,HC⟩:=hrel
    rename World=>wo;have HN:=Za (p:=m+j+S.length=n∧n≤1000000) ⟨by have:=HL.out;omega,by have:=HX.out;omega⟩;obtain ⟨p,hp⟩:∃ p,m - i=p:=⟨_,rfl⟩;have HPP:=Za (p:=P.length=p∧p+i=m) (by have:=HL.out;omega);have hpw:IntKind.i64.wrap ((m:Int) - (i:Int))=(p:Int):=by rw [Zg];have:=HL.out;have:=HN.out;omega
    clear hp;rcases Nat.lt_trichotomy i j with hij | hij | hij
    · have h1 : ((i :Int) !=(j:Int))=true:=by rw [bne_iff_ne];omega
      have h1n:¬ (i:Int)=(j:Int):=by omega
      have h2:¬ (j:Int)<(i:Int):=by omega
      obtain ⟨d,hd⟩:∃ d,j - i=d:=⟨_,rfl⟩;obtain ⟨q,hq⟩:∃ q,m+d=q:=⟨_,rfl⟩;obtain ⟨mj,hmj⟩:∃ mj,m+j=mj:=⟨_,rfl⟩;have hmw:IntKind.i64.wrap ((m:Int)+(j:Int))=(mj:Int):=by rw [Zg];have:=HL.out;have:=HN.out;omega
      have hqw:IntKind.i64.wrap ((mj:Int) - (i:Int))=(q:Int):=by rw [Zg];have:=HL.out;have:=HN.out;omega
      have hdw:IntKind.i64.wrap ((j:Int) - (i:Int))=(d:Int):=by rw [Zg];have:=HL.out;have:=HN.out;omega
      obtain ⟨Y1,Y2,hY,hY1,hY2⟩:∃ Y1 Y2,Y=Y1++Y2∧Y1.length=d∧Y2.length=i:=⟨Y.take d,Y.drop d,(List.take_append_drop _ _).symm,by rw [Zu];have:=HL.out;omega,by rw [Zs];have:=HL.out;omega⟩;have HSW:=Za (swaprange_any gr n cp p q i F P X Y1 Y2 S Z HL.out.1 hY2 HPP.out.1 (by have:=HPP.out;omega) (by have:=HPP.out;have:=HN.out;omega) HN.out.2 wo (by have h9:=HR.out;rw [hY] at h9;simpa only [Zi] using h9));have HD:=Za (p:=j=d+i∧0<d) (by omega);have HY:=Za (p:=Y=Y1++Y2∧Y1.length=d∧Y2.length=i) ⟨hY,hY1,hY2⟩;clear hd hq hmj hij hY hY1 hY2
      go_wp2_with (go_at_call 163;refine HSW.out.mono ?_;rintro e w2 ⟨rfl,hr,hc⟩;have HR2:=Za hr
                   have HC2:=Za (HC.out.trans hc (fun z hz=>.inl hz));clear hr hc)
      go_roundw
      case rel=>exact ⟨i,d,P,Y2,Y1,X++S,rfl,rfl,Za (by have h1:=HL.out;have h2:=HD.out;have h3:=HY.out;rw [Zf];omega),Za (by rw [← HT.out,HY.out.1];simp only [Zi]),Za (by have h9:=HR2.out;simpa only [Zi] using h9),HC2⟩
      case measure=>have h1:=HL.out;have h2:=HD.out;simp [intOf];omega
    · subst hij; have h1:((i:Int) !=(i:Int))=false:=by simp
      have HSW:=Za (swaprange_any gr n cp p m i F P X [] Y S Z HL.out.1 HL.out.2.1 HPP.out.1 (by have:=HPP.out;simp;omega) (by have:=HPP.out;have:=HN.out;simp;omega) HN.out.2 wo (by simpa only [Zt] using HR.out))
      go_wp2_with (go_at_call 163;refine HSW.out.mono ?_;rintro e w2 ⟨rfl,hr,hc⟩;have HR2:=Za hr
                   have HC2:=Za (HC.out.trans hc (fun z hz=>.inl hz));clear hr hc)
      go_end0;exact ⟨rfl,by rw [← HT.out];simpa only [Zt] using HR2.out,HC2.out⟩
    · have h1 : ((i :Int) !=(j:Int))=true:=by rw [bne_iff_ne];omega
      have h1n:¬ (i:Int)=(j:Int):=by omega
      have h2:(j:Int)<(i:Int):=by omega
      obtain ⟨d,hd⟩:∃ d,i - j=d:=⟨_,rfl⟩;have hdw:IntKind.i64.wrap ((i:Int) - (j:Int))=(d:Int):=by rw [Zg];have:=HL.out;have:=HN.out;omega
      obtain ⟨X1,X2,hX,hX1,hX2⟩:∃ X1 X2,X=X1++X2∧X1.length=j∧X2.length=d:=⟨X.take j,X.drop j,(List.take_append_drop _ _).symm,by rw [Zu];have:=HL.out;omega,by rw [Zs];have:=HL.out;omega⟩;have HSW:=Za (swaprange_any gr n cp p m j F P X1 X2 Y S Z hX1 HL.out.2.1 HPP.out.1 (by have:=HPP.out;omega) (by have:=HPP.out;have:=HN.out;omega) HN.out.2 wo (by have h9:=HR.out;rw [hX] at h9;simpa only [Zi] using h9));have HD:=Za (p:=i=d+j∧0<d) (by omega);have HXX:=Za (p:=X=X1++X2∧X1.length=j∧X2.length=d) ⟨hX,hX1,hX2⟩;clear hd hij hX hX1 hX2
      go_wp2_with (go_at_call 163;refine HSW.out.mono ?_;rintro e w2 ⟨rfl,hr,hc⟩;have HR2:=Za hr
                   have HC2:=Za (HC.out.trans hc (fun z hz=>.inl hz));clear hr hc)
      go_roundw
      case rel=>exact ⟨d,j,P++Y,X2,X1,S,rfl,rfl,Za (by have h1:=HL.out;have h2:=HD.out;have h3:=HXX.out;have h4:=HPP.out;rw [Zf];omega),Za (by rw [← HT.out,HXX.out.1];simp only [Zi]),Za (by have h9:=HR2.out;simpa only [Zi] using h9),HC2⟩
      case measure=>have h1:=HL.out;have h2:=HD.out;simp [intOf];omega
end Go.Proofs.YtijffkklhgnknaaGreatDoor
