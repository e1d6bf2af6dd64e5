/- Package grant: flags out of bytes; what a cursor takes; the super that a block tells. Conditions: those named. -/
import Derived.Test.YtijffkklhgnknaaGreatDoorAz
import Derived.Test.YtijffkklhgnknaaGreatDoorMgGq
import Derived.Deep.RegionHeld
set_option maxHeartbeats 20000000
set_option linter.unusedVariables false
set_option maxRecDepth 20000
namespace Go.Proofs.YtijffkklhgnknaaGreatDoor
open Go.RowKit
section
variable {P:Program} {w:World} {ops:Array Oper} {rest:List Oper} {o:Oper} {a:Act} {Q:Exit→Act→World→Prop}
theorem shr_fact (X b:Nat):(X:Int).fdiv (2 ^ b)=((X / 2 ^ b:Nat):Int):=by
  have e:(2:Int) ^ b=((2 ^ b:Nat):Int):=by simp
  rw [e,Int.fdiv_eq_ediv_of_nonneg _ (Int.natCast_nonneg _)];exact (Int.natCast_ediv X (2 ^ b)).symm
theorem wp_shr8 (hgd:o.guard=none) (t t2:TypeId) (x y:Operand) (ho:o.op=.binOp .shr t x y t2) (X:Nat) (hx:a.eval x=.int .u8 (X:Int)) (k2:IntKind) (b r:Nat) (hy:a.eval y=.int k2 (b:Int)) (hb:b<8) (hr:X / 2 ^ b=r)
    (h:wpList P ops Q rest (a.put o.dst (.int .u8 (r:Int))) w):wpList P ops Q (o::rest) a w:=by
  refine wpList_plain hgd fun K hK=>?_;have hm:min b 8=b:=by omega
  have hs:=shr_fact X b;rw [hr] at hs;have hneg:¬ ((b:Int)<0):=by omega
  unfold Oper.wp execOp;simp only [ho,hx,hy];simp only [go_sem,Op.shift,IntKind.bits,Yf,hneg,hm,hs,if_false];simp [hs,hm];exact hK _ _ h
theorem and1:∀ q:Fin 256,bits .and .u8 (q.val:Int) 1=((q.val % 2:Nat):Int):=by decide+kernel
theorem wp_and1 (hgd:o.guard=none) (t t2:TypeId) (x y:Operand) (ho:o.op=.binOp .and t x y t2) (X r:Nat) (hx:a.eval x=.int .u8 (X:Int)) (hX:X<256) (hy:a.eval y=.int .u8 1) (hr:X % 2=r)
    (h:wpList P ops Q rest (a.put o.dst (.int .u8 (r:Int))) w):wpList P ops Q (o::rest) a w:=by
  refine wpList_plain hgd fun K hK=>?_;have h1:=and1 ⟨X,hX⟩
  dsimp only at h1;rw [hr] at h1;unfold Oper.wp execOp;simp only [ho,hx,hy];simp [go_sem,h1];exact hK _ _ h
theorem eq1_fact (r:Nat):((r:Int)==1)=(r==1):=by
  rw [Bool.eq_iff_iff];simp;omega
theorem wp_eq1 (hgd:o.guard=none) (t t2:TypeId) (x y:Operand) (ho:o.op=.binOp .eql t x y t2) (ht:P.underlying t=some (.int .u8)) (r:Nat) (z:Bool) (hx:a.eval x=.int .u8 (r:Int)) (hy:a.eval y=.int .u8 1) (hz:(r==1)=z)
    (h:wpList P ops Q rest (a.put o.dst (.bool z)) w):wpList P ops Q (o::rest) a w:=by
  refine wpList_plain hgd fun K hK=>?_;have h1:=eq1_fact r;rw [hz] at h1;unfold Oper.wp execOp;simp only [ho,hx,hy];simp [go_sem,h1];exact hK _ _ h
end
theorem ub_def (x:UInt8) (b r r2:Nat) (hr:x.toNat / 2 ^ b=r) (hr2:r % 2=r2):(r2==1)=ub x b:=by
  unfold ub;rw [hr,hr2]
theorem unpackbits_any (g o m n cap d:Nat) (t:TypeId) (B:Nat→UInt8) (C:Nat→List Value) (hn:8*m=n) (hC:∀ i,i<n→(C i).set (o+i) (.bool (ub (B (i / 8)) (i % 8)))=C (i+1)) (hz:∀ i,i<n→∃ z,(C i)[o+i]?=some (.bool z)) (hm:m≤32)
    (A:Option Addr) (w:World) (hA:Hol w A (lst m B)) (hAg:∀ q off,A=some ⟨q,off,none⟩→q≠g) (hr:Row w g t (C 0)):
    Calls Tryz.prog 103 #[.slice (some ⟨g,o,none⟩) n d,.slice A m cap] w fun e w'=>e=.returned (.tuple #[])∧Hid (Row w' g t (C n))∧Hid (w.grownBy w' (some g)):=by
  have HA:=Za hA;have HAG:=Za hAg;have HN:=Za hn;have HC:=Za hC;have HZ:=Za hz;have HM:=Za hm;have HR0:=Za (p:=Row w g t (C (8*0))) hr;clear hA hAg hn hC hz hm hr;go_enter Tryz.func103,Tryz.ntmps103;go_wp2;go_loopw [9] (fun y wr=>∃ k:Nat,Hid (k≤m)∧y=.int .i64 (k:Int)∧Hid (Row wr g t (C (8*k)))∧Hid (w.grownBy wr (some g))) (fun y _=>32 - (intOf y).toNat)
  case atStart=>exact ⟨0,Za (by omega),rfl,HR0,Za ⟨rfl,rfl,rfl,Zj _,fun _ _ _=>rfl⟩⟩
  case round =>
    clear HR0;obtain ⟨k,HK,rfl,HR,HG⟩:=hrel;have hkw:IntKind.i64.wrap ((k:Int)+1)=(k:Int)+1:=by rw [Zg];have:=HM.out;have:=HK.out;omega
    by_cases hk:k<m
    · have hki:(k:Int)<(m:Int):=by omega
      have hk0:(0:Int)≤(k:Int):=by omega
      have HKL:=Za hk;have hAk:=HA.out.grown HG.out (fun q off e e2=>HAG.out q off e (by injection e2));obtain ⟨ga,oa,hAe,_,hc⟩:=hAk.at_ (j:=k) (by rw [lst_len];exact hk)
      have hbk:(lst m B)[k]'(by rw [lst_len];exact hk)=B k:=by
        have h1:(lst m B)[k]?=some (B k):=lst_get _ hk;rw [Zh (by rw [lst_len];exact hk)] at h1;injection h1
      rw [hbk] at hc;subst hAe;obtain ⟨X,hX⟩:∃ X,(B k).toNat=X:=⟨_,rfl⟩;rw [hX] at hc;have HX:=Za (p:=(B k).toNat=X∧X<256) ⟨hX,by rw [← hX];exact (B k).toNat_lt⟩;have h8k:IntKind.i64.wrap (8*(k:Int))=((8*k:Nat):Int):=by rw [Zg];have:=HM.out;omega
      obtain ⟨p0,hp0⟩:∃ p0,8*k=p0:=⟨_,rfl⟩;rw [hp0] at h8k;have HP0:=Za hp0;have HR1:=Za (p:=Row wr g t (C (p0+0))) (by rw [Nat.add_zero, ← hp0];exact HR.out);clear hk hp0 hbk hAk hX HR;go_wp2;go_loopw [14] (fun y wr2=>∃ b:Nat,b≤8∧y=.int .i64 (b:Int)∧Hid (Row wr2 g t (C (p0+b)))∧Hid (w.grownBy wr2 (some g))) (fun y _=>8 - (intOf y).toNat)
      case atStart=>exact ⟨0,by omega,rfl,HR1,HG⟩
      case round=>
        clear HR1 HG hc;obtain ⟨b,hb,rfl,HR,HG⟩:=hrel;have hbw:IntKind.i64.wrap ((b:Int)+1)=(b:Int)+1:=by rw [Zg];omega
        by_cases hb8:b<8
        · have hbi:(b:Int)<8:=by omega
          have hb0:(0:Int)≤(b:Int):=by omega
          obtain ⟨p,hp⟩:∃ p,p0+b=p:=⟨_,rfl⟩;have hpw:IntKind.i64.wrap ((p0:Int)+(b:Int))=(p:Int):=by rw [Zg];have:=HM.out;have:=HP0.out;have:=HKL.out;omega
          have hpn:(p:Int)<(n:Int):=by have:=HN.out;have:=HP0.out;have:=HKL.out;omega
          have hpn':p<n:=by omega
          have hp0':(0:Int)≤(p:Int):=by omega
          obtain ⟨z0,hz0⟩:=HZ.out p hpn';rw [hp] at HR;have cz:wr.cell? ⟨g,o+p,none⟩=some (.bool z0):=by rw [HR.out.cell,hz0]
          have fz:=HR.out.free (o+p);obtain ⟨r,hr⟩:∃ r,X / 2 ^ b=r:=⟨_,rfl⟩;obtain ⟨r2,hr2⟩:∃ r2,r % 2=r2:=⟨_,rfl⟩;obtain ⟨z,hzz⟩:∃ z,ub (B k) b=z:=⟨_,rfl⟩;have hrX:r<256:=Nat.lt_of_le_of_lt (by rw [← hr];exact Nat.div_le_self _ _) HX.out.2;have hzr:(r2==1)=z:=by rw [← hzz];exact ub_def (B k) b r r2 (by rw [HX.out.1];exact hr) hr2
          have HST:=Za (p:=(C p).set (o+p) (.bool z)=C (p+1)) (by
            have h1:=HC.out p hpn';rw [show p / 8=k by have:=HP0.out;omega,show p % 8=b by have:=HP0.out;omega,hzz] at h1;exact h1)
          have HF:=Za (p:=X / 2 ^ b=r∧r % 2=r2∧(r2==1)=z∧r<256∧b<8∧p0+b=p) ⟨hr,hr2,hzr,hrX,hb8,hp⟩;clear hr hr2 hzz hrX hzr hb hb8 hp hpn' hz0
          go_wp2_with (first
            | (refine wp_shr8 rfl _ _ _ _ rfl X rfl _ b r rfl HF.out.2.2.2.2.1 HF.out.1 ?_)
            | (refine wp_and1 rfl _ _ (.tmp 24) _ rfl r r2 rfl HF.out.2.2.2.1 rfl HF.out.2.1 ?_)
            | (refine wp_eq1 rfl _ _ (.tmp 25) _ rfl Tryz.underlying5 r2 z rfl rfl HF.out.2.2.1 ?_))
          clear hpw hpn hp0' cz fz hbi hb0;go_roundw
          case rel=>exact ⟨b+1,HF.out.2.2.2.2.1,by go_num,Za (by rw [show p0+(b+1)=p+1 by have:=HF.out.2.2.2.2.2;omega, ← HST.out];exact HR.out.put _ _),Za (grown_trans HG.out (grown_set wr ⟨g,o+p,none⟩ _))⟩
          case measure=>have:=HF.out.2.2.2.2.1;simp [intOf];omega
        · obtain rfl:b=8:=by omega
          have hbi:¬ ((8:Nat):Int)<8:=by omega
          have HR2:=Za (p:=Row wr g t (C (8*(k+1)))) (by rw [show 8*(k+1)=p0+8 by have:=HP0.out;omega];exact HR.out);clear hb hb8 HR;go_wp2;go_roundw
          case rel=>exact ⟨k+1,Za HKL.out,by go_num,HR2,HG⟩
          case measure=>have:=HKL.out;have:=HM.out;simp [intOf];omega
    · obtain rfl:k=m:=by have:=HK.out;omega
      have hki:¬ (k:Int)<(k:Int):=by omega
      have HR2:=Za (p:=Row wr g t (C n)) (by rw [← HN.out];exact HR.out);clear hk HR;go_wp2;go_end0;exact ⟨rfl,HR2,HG⟩
/- Package grant:the super of a block,or none. Conditions:those named. -/
theorem num_take_lt (l:List UInt8) (k:Nat):num (l.take k)<256 ^ k:=by
  have h:=num_lt (l.take k);have h2:(l.take k).length≤k:=by simp;omega
  exact Yc h (Nat.pow_le_pow_right (by decide) h2)
theorem nnx_in {n:Nat} {l:List UInt8} (bad:Bool) (hw:wid (n:Int)≠0) (h:n≤l.length):nnx (n:Int) l bad=(l.take n,l.drop n,bad):=by
  unfold nnx nxt;rw [if_neg hw,if_neg (by omega),Yf]
theorem nxt_in {n:Nat} {l:List UInt8} (bad:Bool) (h:n≤l.length):nxt (n:Int) l bad=(l.take n,l.drop n,bad):=by
  unfold nxt;rw [if_neg (by omega),Yf]
theorem cnum_at (g:Nat) (l:List UInt8) (k:Nat) (hk:k=1∨k=2∨k=4∨k=8) (w:World) (hc:Cur w g l false) (h2:k≤l.length) (hl:l.length≤256):
    Calls Tryz.prog 74 #[.pointer (some ⟨g,0,none⟩),.int .i64 (k:Int)] w fun e w'=>e=.returned (.int .u64 (num (l.take k):Nat))∧Hid (Cur w' g (l.drop k) false)∧Hid (w.grownBy w' (some g)):=by
  refine (num_any g l false (k:Int) w hc (by omega)).mono ?_;rintro e w' ⟨h1,h2',h3⟩;rw [nnx_in false (by rcases hk with rfl | rfl | rfl | rfl <;> decide) h2] at h1 h2';exact ⟨h1,h2',h3⟩
theorem take_at (g:Nat) (l:List UInt8) (k:Nat) (w:World) (hc:Cur w g l false) (h2:k≤l.length) (hl:l.length≤256):
    Calls Tryz.prog 102 #[.pointer (some ⟨g,0,none⟩),.int .i64 (k:Int)] w fun e w'=>∃ A c,e=.returned (.slice A k c)∧Hid (Hol w' A (l.take k))∧Hid (∀ q o,A=some ⟨q,o,none⟩→w.heap.size≤q)∧Hid (Cur w' g (l.drop k) false)∧Hid (w.grownBy w' (some g)):=by
  refine (take_any g l false (k:Int) w hc (by omega)).mono ?_;rintro e w' ⟨v,h1,h2',h3,h4⟩;rw [nxt_in false h2] at h2' h3
  have ho:w'.ownsRow w.heap.size 5 1 v k (bc (l.take k)):=by
    have e32:(l.take k).length=k:=by simp;omega
    have h5:w'.ownsRow w.heap.size 5 1 v (l.take k).length (bc (l.take k)):=h2';rwa [e32] at h5
  obtain ⟨A,c,rfl⟩:=own_sl ho;exact ⟨A,c,h1,Hol.own ho,fun q o hd=>(ho.lt q (by rw [hd];rfl)).1,h3,h4⟩
theorem lst_cut (L:List UInt8) (i n:Nat) (h:i+n≤L.length):(L.drop i).take n=lst n (fun j=>L.getD (i+j) 0):=by
  apply List.ext_getElem?;intro j;rw [List.getElem?_take];by_cases hj:j<n
  · rw [if_pos hj,List.getElem?_drop,lst_get _ hj,Zh (by omega)];simp [List.getD,Zh (show i+j<L.length by omega)]
  · rw [if_neg hj,List.getElem?_eq_none (by rw [lst_len];omega)]
def srS (L:List UInt8):Nat:=num ((L.drop 4).take 8)
def srU (L:List UInt8) (j:Nat):Bool:=ub (L.getD (12+j / 8) 0) (j % 8)
def srI (L:List UInt8) (j:Nat):Int:=((num ((L.drop (44+2*j)).take 2):Nat):Int)
def srO (L:List UInt8) (j:Nat):Bool:=ub (L.getD (172+j / 8) 0) (j % 8)
def pr (s:Nat) (L:List UInt8) (a b c:Nat):Sup:=⟨s,fun j=>if j<a then srU L j else false,fun j=>if 1≤j∧j<b+1 then srI L (j - 1) else 0,fun j=>if 1≤j∧j<c+1 then srO L (j - 1) else false⟩
def sr (L:List UInt8):Sup:=pr (srS L) L 256 64 64
theorem Sup.cs_of {x y:Sup} (h1:x.s=y.s) (h2:∀ j,j<256→x.u j=y.u j) (h3:∀ j,j<65→x.i j=y.i j) (h4:∀ j,j<65→x.o j=y.o j):x.cs=y.cs:=Sup.cs_eq ((Sup.eqb_iff x y).2 ⟨h1,h2,h3,h4⟩)
theorem pr_zero (L:List UInt8):sup0.cs=(pr 0 L 0 0 0).cs:=Sup.cs_of rfl (fun j _=>by unfold pr;dsimp only;rw [if_neg (by omega)];rfl) (fun j _=>by unfold pr;dsimp only;rw [if_neg (by omega)];rfl) (fun j _=>by unfold pr;dsimp only;rw [if_neg (by omega)];rfl)
theorem pr_s (s:Nat) (L:List UInt8):(pr 0 L 0 0 0).cs.set 0 (.int .u64 (s:Int))=(pr s L 0 0 0).cs:=Sup.set_s _ s
theorem pr_u (s:Nat) (L:List UInt8) (i:Nat) (hi:i<256):(pr s L i 0 0).cs.set (1+i) (.bool (srU L i))=(pr s L (i+1) 0 0).cs:=by
  rw [Sup.set_u _ _ hi];refine Sup.cs_of rfl (fun j hj=>?_) (fun _ _=>rfl) (fun _ _=>rfl);unfold Sup.setU pr
  dsimp only;by_cases h:j=i
  · subst h;rw [at1_same,if_pos (by omega)]
  · rw [at1_other _ _ h];by_cases h2:j<i
    · rw [if_pos h2,if_pos (by omega)]
    · rw [if_neg h2,if_neg (by omega)]
theorem pr_i (s:Nat) (L:List UInt8) (i:Nat) (hi:i<64):(pr s L 256 i 0).cs.set (257+(i+1)) (.int .i64 (srI L i))=(pr s L 256 (i+1) 0).cs:=by
  rw [Sup.set_i _ _ (by omega)];refine Sup.cs_of rfl (fun _ _=>rfl) (fun j hj=>?_) (fun _ _=>rfl);unfold Sup.setI pr
  dsimp only;by_cases h:j=i+1
  · subst h;rw [at1_same,if_pos (by omega),Nat.add_sub_cancel]
  · rw [at1_other _ _ h];by_cases h2:1≤j∧j<i+1
    · rw [if_pos h2,if_pos (by omega)]
    · rw [if_neg h2,if_neg (by omega)]
theorem pr_o (s:Nat) (L:List UInt8) (i:Nat) (hi:i<64):(pr s L 256 64 i).cs.set (323+i) (.bool (srO L i))=(pr s L 256 64 (i+1)).cs:=by
  rw [show 323+i=322+(i+1) by omega,Sup.set_o _ _ (by omega)];refine Sup.cs_of rfl (fun _ _=>rfl) (fun _ _=>rfl) (fun j hj=>?_);unfold Sup.setO pr
  dsimp only;by_cases h:j=i+1
  · subst h;rw [at1_same,if_pos (by omega),Nat.add_sub_cancel]
  · rw [at1_other _ _ h];by_cases h2:1≤j∧j<i+1
    · rw [if_pos h2,if_pos (by omega)]
    · rw [if_neg h2,if_neg (by omega)]
theorem srS_lt (L:List UInt8):srS L<18446744073709551616:=num_take_lt (L.drop 4) 8
def SOk (L:List UInt8):Prop:=L.length=256∧(sr L).May∧lst 256 (sr L).pb=L
structure US (w0 w:World) (gc g2 g4:Nat) (L:List UInt8) (d:Nat) (x:Sup):Prop where
  cur:Cur w gc (L.drop d) false
  r2:Row w g2 76 sup0.cs
  r4:Row w g4 76 x.cs
  n:g2<g4∧g4<gc
  q:w0.heap.size≤g2
  b:Below w0.heap.size w0 w
theorem US.turn {w0 w w':World} {gc g2 g4:Nat} {L:List UInt8} {d d':Nat} {x:Sup} (h:US w0 w gc g2 g4 L d x) (hc:Cur w' gc (L.drop d') false) (hg:w.grownBy w' (some gc)):US w0 w' gc g2 g4 L d' x:=
  ⟨hc,h.r2.grown hg (fun e=>by injection e with e;have:=h.n;omega),h.r4.grown hg (fun e=>by injection e with e;have:=h.n;omega),h.n,h.q,h.b.grown hg h.b.size (fun q hq=>by injection hq with hq;have:=h.n;have:=h.q;omega)⟩
theorem Row.no8 {w:World} {g:Nat} {t:TypeId} {cs:List Value} (h:Row w g t cs) (ht:t≠5):∀ q,some g=some q→∀ xs,w.heap[q]?≠some (.cells xs 5 (0,0)):=by
  intro q e xs e2;injection e with e
  subst e;unfold Row at h;rw [h] at e2;injection e2 with e2
  injection e2 with _ e2
  exact ht e2
theorem US.row {w0 w w':World} {gc g2 g4:Nat} {L:List UInt8} {d:Nat} {x y:Sup} (h:US w0 w gc g2 g4 L d x) (hr:Row w' g4 76 y.cs) (hg:w.grownBy w' (some g4)):US w0 w' gc g2 g4 L d y:=
  ⟨h.cur.grown hg (fun e=>by injection e with e;have:=h.n;omega) (fun q hq=>h.r4.no8 (by decide) q hq),h.r2.grown hg (fun e=>by injection e with e;have:=h.n;omega),hr,h.n,h.q,h.b.grown hg h.b.size (fun q hq=>by injection hq with hq;have:=h.n;have:=h.q;omega)⟩
theorem US.drew {w0 w:World} {gc g2 g4:Nat} {L:List UInt8} {d:Nat} {x:Sup} (h:US w0 w gc g2 g4 L d x):US w0 w.drew gc g2 g4 L d x:=
  ⟨h.cur.below ((Below.refl _ _).drew),h.r2.drew,h.r4.drew,h.n,h.q,h.b.drew⟩
theorem US.num {w0 w:World} {gc g2 g4:Nat} {L:List UInt8} {d:Nat} {x:Sup} (h:US w0 w gc g2 g4 L d x) (s d2:Nat) (hs:s=1∨s=2∨s=4∨s=8) (hd:d+s=d2) (hl:L.length=256) (h2:d2≤256):
    Calls Tryz.prog 74 #[.pointer (some ⟨gc,0,none⟩),.int .i64 (s:Int)] w fun e w'=>e=.returned (.int .u64 ((num ((L.drop d).take s):Nat):Int))∧Hid (US w0 w' gc g2 g4 L d2 x):=by
  refine (cnum_at gc (L.drop d) s hs w h.cur (by rw [Zs];omega) (by rw [Zs];omega)).mono ?_;rintro e w' ⟨rfl,hc,hg⟩;refine ⟨rfl,Za (h.turn ?_ hg.out)⟩;have:=hc.out;rw [List.drop_drop,hd] at this;exact this
theorem US.take {w0 w:World} {gc g2 g4:Nat} {L:List UInt8} {d:Nat} {x:Sup} (h:US w0 w gc g2 g4 L d x) (s d2:Nat) (hd:d+s=d2) (hl:L.length=256) (h2:d2≤256):
    Calls Tryz.prog 102 #[.pointer (some ⟨gc,0,none⟩),.int .i64 (s:Int)] w fun e w'=>∃ A c,e=.returned (.slice A s c)∧Hid (Hol w' A (lst s fun j=>L.getD (d+j) 0))∧Hid (∀ q o,A=some ⟨q,o,none⟩→q≠g4)∧Hid (US w0 w' gc g2 g4 L d2 x):=by
  refine (take_at gc (L.drop d) s w h.cur (by rw [Zs];omega) (by rw [Zs];omega)).mono ?_;rintro e w' ⟨A,c,rfl,hh,hq,hc,hg⟩;refine ⟨A,c,rfl,?_,fun q o e=>?_,Za (h.turn ?_ hg.out)⟩
  · rw [← lst_cut L d s (by omega)];exact hh
  · have h1:=hq.out q o e;have h2:=h.r4.lt;omega
  · have:=hc.out;rw [List.drop_drop,hd] at this;exact this
theorem string_beq (a b:List UInt8):((⟨a.toArray⟩:ByteArray).toList==(⟨b.toArray⟩:ByteArray).toList)=decide (a=b):=by
  rw [ByteArray.toList_eq,ByteArray.toList_eq,Bool.eq_iff_iff];simp
theorem bequal_any (A B:Option Addr) (n m c d:Nat) (a b:List UInt8) (hn:n=a.length) (hm:m=b.length) (w:World) (hA:Hol w A a) (hB:Hol w B b):
    Calls Tryz.prog 75 #[.slice A n c,.slice B m d] w fun e w'=>e=.returned (.bool (decide (a=b)))∧w'=w:=by
  have h1:=run_to_string (P:=Tryz.prog) w 23 9 5 A c n a hn Tryz.underlying23 Tryz.underlying5 Tryz.underlying9 hA;have h2:=run_to_string (P:=Tryz.prog) w 23 9 5 B d m b hm Tryz.underlying23 Tryz.underlying5 Tryz.underlying9 hB;have hs:=string_beq a b;generalize (⟨a.toArray⟩:ByteArray)=S at*;generalize (⟨b.toArray⟩:ByteArray)=T at*;clear hA hB hn hm;go_enter Tryz.func75,Tryz.ntmps75;go_wp2;go_ret;exact ⟨by rw [← hs];rfl,rfl⟩
theorem gunpack_ok (A:Option Addr) (cb:Nat) (L:List UInt8) (hok:SOk L) (w:World) (hA:Hol w A L):
    Calls Tryz.prog 63 #[.slice A 256 cb] w fun e w'=>e=.returned (.tuple #[.agg (sr L).cs.toArray,.int .i64 0])∧Below w.heap.size w w':=by
  have i1:=Za (fun x:Sup=>info_cs x);have hz:=Za zero_sup;have hn:=hok.1
  have HNew:Hid (∀ w',Below w.heap.size w w'→Calls Tryz.prog 73 #[.slice A 256 cb] w' fun e w''=>∃ g,e=.returned (.pointer (some ⟨g,0,none⟩))∧w'.heap.size≤g∧Cur w'' g L false∧Below w'.heap.size w' w''):=fun w' hb=>by
    have h:=cur_new_any A cb L w' (hA.below hb) (by omega);rwa [hn] at h
  have HA:=Za hA;have HL:=Za hn;have HP:=Za (fun w=>gpack_ok (sr L) hok.2.1 (srS_lt L) w);have HE:=Za (p:=decide (lst 256 (sr L).pb=L)=true) (decide_eq_true hok.2.2);clear hok hA hn;go_enter Tryz.func63,Tryz.ntmps63
  go_wp2_with (first
    | (refine step_alloc rfl 2 rfl 76 rfl _ hz.out ?_;intro g2 w2 hr2 hg2 hb2 hs2;have R2:=Za hr2
       have HB2:=Za hb2;have Q2:=Za (p:=w.heap.size≤g2) (by rw [hg2.out];exact Zj _);clear hr2 hb2 hg2 hs2)
    | (refine step_alloc rfl 4 rfl 76 rfl _ hz.out ?_;intro g4 w4 hr4 hg4 hb4 hs4;have R4:=Za hr4
       have R24:=Za (R2.out.kept hb4);have HB4:=Za (below_nxt hb4 HB2.out);have N24:=Za (p:=g2<g4) (by rw [hg4.out];exact R2.out.lt);clear hr4 hb4 hg4 hs4)
    | (go_at_call 73;refine (HNew.out _ HB4.out).mono ?_;rintro e5 w5 ⟨gc,rfl,hq5,hc5,hb5⟩;have NS:=Za (p:=US w w5 gc g2 g4 L 0 (pr 0 L 0 0 0)) ⟨by rw [List.drop_zero];exact hc5,R24.out.kept hb5,by rw [← pr_zero];exact R4.out.kept hb5,⟨N24.out,Yc R4.out.lt hq5⟩,Q2.out,HB4.out.trans (hb5.mono HB4.out.size)⟩
       clear hq5 hc5 hb5 R4 R24 HB4))
  refine (NS.out.take 4 4 rfl HL.out (by omega)).mono ?_;rintro e w6 ⟨A6,c6,rfl,_,_,N6⟩;go_wp2_with fail;refine (N6.out.num 8 12 (.inr (.inr (.inr rfl))) rfl HL.out (by omega)).mono ?_;rintro e w7 ⟨rfl,N7⟩;have c0:w7.cell? ⟨g4,0,none⟩=some (.int .u64 0):=by rw [N7.out.r4.cell];rfl
  have f0:=N7.out.r4.free 0;have HSS:=Za (p:=num ((L.drop 4).take 8)=srS L) rfl;rw [HSS.out];obtain ⟨s,hs⟩:∃ s,srS L=s:=⟨_,rfl⟩;rw [hs];have HS:=Za hs;have N8:=Za (p:=US w (w7.setCell ⟨g4,0,none⟩ (.int .u64 (s:Int))) gc g2 g4 L 12 (pr s L 0 0 0)) (N7.out.row (by rw [← pr_s];exact N7.out.r4.put 0 _) (grown_set w7 ⟨g4,0,none⟩ _));clear hs;go_wp2_with fail;clear c0 f0 NS N6 N7;generalize w7.setCell ⟨g4,0,none⟩ (.int .u64 (s:Int))=w8 at*;refine Zq (S:=fun _=>True) (by kernel_rfl) trivial (fun hHeld=>?_);refine Ze (i:=0) (oi:=⟨some 20,.fieldAddr 76 (.tmp 4) 1,_,_,_,_⟩) (v:=.pointer (some ⟨g4,1,none⟩)) rfl (by kernel_rfl) (by kernel_rfl) (by kernel_rfl) (fun _ _ _ h=>h) (.inl ⟨by rfl,fun w hSw=>by go_simp⟩) (by assumption) ?_;simp only [Act.put,Zb,Zc,Zd];refine Ze (i:=1) (oi:=⟨some 21,.slice 72 (.tmp 20) none none none,_,_,_,_⟩) (v:=.slice (some ⟨g4,1,none⟩) 256 256) rfl (by kernel_rfl) (by kernel_rfl) (by kernel_rfl) (fun _ _ _ h=>h) (.inl ⟨by rfl,fun w hSw=>by go_simp⟩) (by assumption) ?_;simp only [Act.put,Zb,Zc,Zd];refine Ze (i:=2) (oi:=⟨some 22,.move (.tmp 5),_,_,_,_⟩) (v:=.pointer (some ⟨gc,0,none⟩)) rfl (by kernel_rfl) (by kernel_rfl) (by kernel_rfl) (fun _ _ _ h=>h) (.inl ⟨by rfl,fun w hSw=>by go_simp⟩) (by assumption) ?_;simp only [Act.put,Zb,Zc,Zd];refine Zp (rs:=[3]) (by kernel_rfl) (by simp) ?_;refine Zl (o:=⟨some 23,.call ⟨.value (.func 102),#[.tmp 22,.const (.int .i64 32)],_⟩,_,_,_,_⟩) rfl (fun K hK=>?_) Zo;go_simp;refine (N8.out.drew.take 32 44 rfl HL.out (by omega)).mono ?_;rintro e wt7 ⟨At7,ct7,rfl,HT7,HQ7,NT7⟩;refine hK.out _ _ trivial (fun _hH=>?_);clear hK K;refine Zp (rs:=[4]) (by kernel_rfl) (by simp) ?_;refine Zl (o:=⟨some 24,.call ⟨.value (.func 103),#[.tmp 21,.tmp 23],_⟩,_,_,_,_⟩) rfl (fun K hK=>?_) Zo;go_simp;refine (unpackbits_any g4 1 32 256 ct7 256 76 (fun j=>L.getD (12+j) 0) (fun i=>(pr s L i 0 0).cs) rfl (fun i hi=>pr_u s L i (by omega)) (fun i hi=>⟨_,Sup.c_u _ (by omega)⟩) (by omega) At7 wt7 HT7.out HQ7.out (by exact NT7.out.r4)).mono ?_;rintro e wu7 ⟨rfl,hru7,hgu7⟩;have NU7:=Za (NT7.out.row hru7.out hgu7.out);clear HT7 HQ7 NT7 hru7 hgu7;refine hK.out _ _ trivial (fun _hH1=>?_);clear hK K;refine Yg (by kernel_rfl) ?_ _;go_wp2_with fail;go_loopw [25] (fun x wr=>∃ k:Nat,Hid (k≤64)∧x=.int .i64 (k:Int)∧Hid (US w wr gc g2 g4 L (44+2*k) (pr s L 256 k 0))) (fun x _=>64 - (intOf x).toNat)
  case atStart=>exact ⟨0,Za (by omega),rfl,NU7⟩
  case round=>
    clear NU7 N8;obtain ⟨k,HK,rfl,NR⟩:=hrel;have hkw:IntKind.i64.wrap ((k:Int)+1)=(k:Int)+1:=by rw [Zg];have:=HK.out;omega
    by_cases hk:k<64
    · have hki : (k :Int)<64:=by omega
      have hk0:(0:Int)≤(k:Int):=by omega
      have HKL:=Za hk;obtain ⟨x,hx⟩:∃ x,num ((L.drop (44+2*k)).take 2)=x:=⟨_,rfl⟩;have bx:x<65536:=by rw [← hx];exact num_take_lt _ 2
      have wx:IntKind.i64.wrap (x:Int)=(x:Int):=by rw [Zg];omega
      have HNM:=Za (NR.out.num 2 (44+2*(k+1)) (.inr (.inl rfl)) (by omega) HL.out (by omega));rw [hx] at HNM;obtain ⟨p,hp⟩:∃ p,k+1=p:=⟨_,rfl⟩;have hpw:IntKind.i64.wrap ((k:Int)+1)=(p:Int):=by rw [hkw];omega
      have hpe:(k:Int)+1=(p:Int):=by omega
      have hpn:(p:Int)<65:=by omega
      have hp0:(0:Int)≤(p:Int):=by omega
      have HP:=Za hp;have HXI:=Za (p:=srI L k=(x:Int)) (by unfold srI;rw [hx]);have HCI:Hid (∀ W,US w W gc g2 g4 L (44+2*(k+1)) (pr s L 256 k 0)→(∃ z,W.cell? ⟨g4,257+p,none⟩=some (.int .i64 z))∧W.frozen? ⟨g4,257+p,none⟩=false):=Za (fun W h=>⟨⟨_,by rw [h.r4.cell,Sup.c_i _ (by omega)]⟩,h.r4.free _⟩);clear hk hx bx hp hkw
      go_wp2_with (go_at_call 74;refine HNM.out.mono ?_;rintro e w9 ⟨rfl,N9⟩;obtain ⟨z9,cz9⟩:=(HCI.out _ N9.out).1
                   have fz9:=(HCI.out _ N9.out).2;have N10:=Za (p:=US w (w9.setCell ⟨g4,257+p,none⟩ (.int .i64 (x:Int))) gc g2 g4 L (44+2*(k+1)) (pr s L 256 (k+1) 0)) (N9.out.row (by rw [← pr_i s L k HKL.out,HXI.out,HP.out];exact N9.out.r4.put _ _) (grown_set w9 ⟨g4,257+p,none⟩ _)))
      clear cz9 fz9 N9 HNM;go_roundw
      case rel=>exact ⟨k+1,Za HKL.out,(by first | go_num | exact congrArg (Value.int .i64) (by have:=HP.out;omega)),N10⟩
      case measure=>have:=HKL.out;have:=HP.out;simp [intOf];omega
    · obtain rfl:k=64:=by have:=HK.out;omega
      have hki:¬ ((64:Nat):Int)<64:=by omega
      clear hk hkw;go_wp2_with fail;refine Zq (S:=fun _=>True) (by kernel_rfl) trivial (fun hHeld=>?_);refine Ze (i:=0) (oi:=⟨some 36,.fieldAddr 76 (.tmp 4) 3,_,_,_,_⟩) (v:=.pointer (some ⟨g4,322,none⟩)) rfl (by kernel_rfl) (by kernel_rfl) (by kernel_rfl) (fun _ _ _ h=>h) (.inl ⟨by rfl,fun w hSw=>by go_simp⟩) (by assumption) ?_;simp only [Act.put,Zb,Zc,Zd];refine Ze (i:=1) (oi:=⟨some 37,.slice 74 (.tmp 36) (some (.const (.int .i64 1))) none none,_,_,_,_⟩) (v:=.slice (some ⟨g4,323,none⟩) 64 64) rfl (by kernel_rfl) (by kernel_rfl) (by kernel_rfl) (fun _ _ _ h=>h) (.inl ⟨by rfl,fun w hSw=>by go_simp⟩) (by assumption) ?_;simp only [Act.put,Zb,Zc,Zd];refine Ze (i:=2) (oi:=⟨some 38,.move (.tmp 5),_,_,_,_⟩) (v:=.pointer (some ⟨gc,0,none⟩)) rfl (by kernel_rfl) (by kernel_rfl) (by kernel_rfl) (fun _ _ _ h=>h) (.inl ⟨by rfl,fun w hSw=>by go_simp⟩) (by assumption) ?_;simp only [Act.put,Zb,Zc,Zd];refine Zp (rs:=[3]) (by kernel_rfl) (by simp) ?_;refine Zl (o:=⟨some 39,.call ⟨.value (.func 102),#[.tmp 38,.const (.int .i64 8)],_⟩,_,_,_,_⟩) rfl (fun K hK=>?_) Zo;go_simp;refine (NR.out.drew.take 8 180 rfl HL.out (by omega)).mono ?_;rintro e wt13 ⟨At13,ct13,rfl,HT13,HQ13,NT13⟩;refine hK.out _ _ trivial (fun _hH=>?_);clear hK K;refine Zp (rs:=[4]) (by kernel_rfl) (by simp) ?_;refine Zl (o:=⟨some 40,.call ⟨.value (.func 103),#[.tmp 37,.tmp 39],_⟩,_,_,_,_⟩) rfl (fun K hK=>?_) Zo;go_simp;refine (unpackbits_any g4 323 8 64 ct13 64 76 (fun j=>L.getD (172+j) 0) (fun i=>(pr s L 256 64 i).cs) rfl (fun i hi=>pr_o s L i (by omega)) (fun i hi=>⟨_,by rw [show 323+i=322+(i+1) by omega];exact Sup.c_o _ (by omega)⟩) (by omega) At13 wt13 HT13.out HQ13.out (by exact NT13.out.r4)).mono ?_;rintro e wu13 ⟨rfl,hru13,hgu13⟩;have NU13:=Za (NT13.out.row hru13.out hgu13.out);clear HT13 HQ13 NT13 hru13 hgu13;refine hK.out _ _ trivial (fun _hH1=>?_);clear hK K;refine Yg (by kernel_rfl) ?_ _;have NF:=Za (p:=US w wu13 gc g2 g4 L 180 (sr L)) (by unfold sr;rw [HS.out];exact NU13.out);clear NU13 NR
      go_wp2_with (first
        | (refine step_load rfl 42 rfl 76 (.tmp 4) rfl g4 rfl (sr L).cs _ NF.out.r4.all Yj rfl (i1.out _) ?_)
        | (go_at_call 104;refine (HP.out _).mono ?_;rintro e8 w18 ⟨g8,c8,rfl,ho8,hb8⟩;have R10:=Za (NF.out.r4.kept hb8.out)
           have R28:=Za (NF.out.r2.kept hb8.out);have HB8:=Za (below_nxt hb8.out NF.out.b);have HH8:=Za (Hol.own ho8.out);clear hb8 ho8)
        | (go_at_call 75;refine (bequal_any (some ⟨g8,0,none⟩) A 256 256 c8 cb (lst 256 (sr L).pb) L (lst_len _ _).symm HL.out.symm _ HH8.out (HA.out.below HB8.out)).mono ?_;rintro e9 w19 ⟨rfl,hw9⟩;obtain rfl:=hw9.symm;rw [HE.out])
        | (refine step_load rfl 55 rfl 76 (.tmp 4) rfl g4 rfl (sr L).cs _ R10.out.all Yj rfl (i1.out _) ?_)
        | (refine step_store rfl 76 (.tmp 2) (.tmp 55) rfl g2 (by rfl) _ sup0.cs (sr L).cs (by rfl) R28.out (by rw [Sup.cs_len,Sup.cs_len]) (i1.out _) (Sup.cs_one _) ?_;intro w9 hr9 hg9 hs9))
      refine Yd (results_row_tmp rfl _ _ g2 _ _ _ _ rfl hr9 Yj rfl (by simpa using i1.out (sr L))) rfl ?_;exact ⟨rfl,HB8.out.grown hg9 HB8.out.size (fun q hq=>by injection hq with hq;subst hq;exact Q2.out)⟩
theorem gunpack_diff (A:Option Addr) (cb:Nat) (L:List UInt8) (hn:L.length=256) (hm:(sr L).May) (hd:lst 256 (sr L).pb≠L) (w:World) (hA:Hol w A L):
    Calls Tryz.prog 63 #[.slice A 256 cb] w fun e w'=>e=.returned (.tuple #[.agg sup0.cs.toArray,.int .i64 210])∧Below w.heap.size w w':=by
  have i1:=Za (fun x:Sup=>info_cs x);have hz:=Za zero_sup
  have HNew:Hid (∀ w',Below w.heap.size w w'→Calls Tryz.prog 73 #[.slice A 256 cb] w' fun e w''=>∃ g,e=.returned (.pointer (some ⟨g,0,none⟩))∧w'.heap.size≤g∧Cur w'' g L false∧Below w'.heap.size w' w''):=fun w' hb=>by
    have h:=cur_new_any A cb L w' (hA.below hb) (by omega);rwa [hn] at h
  have HA:=Za hA;have HL:=Za hn;have HP:=Za (fun w=>gpack_ok (sr L) hm (srS_lt L) w);have HE:=Za (p:=decide (lst 256 (sr L).pb=L)=false) (decide_eq_false hd);clear hm hd hA hn;go_enter Tryz.func63,Tryz.ntmps63
  go_wp2_with (first
    | (refine step_alloc rfl 2 rfl 76 rfl _ hz.out ?_;intro g2 w2 hr2 hg2 hb2 hs2;have R2:=Za hr2
       have HB2:=Za hb2;have Q2:=Za (p:=w.heap.size≤g2) (by rw [hg2.out];exact Zj _);clear hr2 hb2 hg2 hs2)
    | (refine step_alloc rfl 4 rfl 76 rfl _ hz.out ?_;intro g4 w4 hr4 hg4 hb4 hs4;have R4:=Za hr4
       have R24:=Za (R2.out.kept hb4);have HB4:=Za (below_nxt hb4 HB2.out);have N24:=Za (p:=g2<g4) (by rw [hg4.out];exact R2.out.lt);clear hr4 hb4 hg4 hs4)
    | (go_at_call 73;refine (HNew.out _ HB4.out).mono ?_;rintro e5 w5 ⟨gc,rfl,hq5,hc5,hb5⟩;have NS:=Za (p:=US w w5 gc g2 g4 L 0 (pr 0 L 0 0 0)) ⟨by rw [List.drop_zero];exact hc5,R24.out.kept hb5,by rw [← pr_zero];exact R4.out.kept hb5,⟨N24.out,Yc R4.out.lt hq5⟩,Q2.out,HB4.out.trans (hb5.mono HB4.out.size)⟩
       clear hq5 hc5 hb5 R4 R24 HB4))
  refine (NS.out.take 4 4 rfl HL.out (by omega)).mono ?_;rintro e w6 ⟨A6,c6,rfl,_,_,N6⟩;go_wp2_with fail;refine (N6.out.num 8 12 (.inr (.inr (.inr rfl))) rfl HL.out (by omega)).mono ?_;rintro e w7 ⟨rfl,N7⟩;have c0:w7.cell? ⟨g4,0,none⟩=some (.int .u64 0):=by rw [N7.out.r4.cell];rfl
  have f0:=N7.out.r4.free 0;have HSS:=Za (p:=num ((L.drop 4).take 8)=srS L) rfl;rw [HSS.out];obtain ⟨s,hs⟩:∃ s,srS L=s:=⟨_,rfl⟩;rw [hs];have HS:=Za hs;have N8:=Za (p:=US w (w7.setCell ⟨g4,0,none⟩ (.int .u64 (s:Int))) gc g2 g4 L 12 (pr s L 0 0 0)) (N7.out.row (by rw [← pr_s];exact N7.out.r4.put 0 _) (grown_set w7 ⟨g4,0,none⟩ _));clear hs;go_wp2_with fail;clear c0 f0 NS N6 N7;generalize w7.setCell ⟨g4,0,none⟩ (.int .u64 (s:Int))=w8 at*;refine Zq (S:=fun _=>True) (by kernel_rfl) trivial (fun hHeld=>?_);refine Ze (i:=0) (oi:=⟨some 20,.fieldAddr 76 (.tmp 4) 1,_,_,_,_⟩) (v:=.pointer (some ⟨g4,1,none⟩)) rfl (by kernel_rfl) (by kernel_rfl) (by kernel_rfl) (fun _ _ _ h=>h) (.inl ⟨by rfl,fun w hSw=>by go_simp⟩) (by assumption) ?_;simp only [Act.put,Zb,Zc,Zd];refine Ze (i:=1) (oi:=⟨some 21,.slice 72 (.tmp 20) none none none,_,_,_,_⟩) (v:=.slice (some ⟨g4,1,none⟩) 256 256) rfl (by kernel_rfl) (by kernel_rfl) (by kernel_rfl) (fun _ _ _ h=>h) (.inl ⟨by rfl,fun w hSw=>by go_simp⟩) (by assumption) ?_;simp only [Act.put,Zb,Zc,Zd];refine Ze (i:=2) (oi:=⟨some 22,.move (.tmp 5),_,_,_,_⟩) (v:=.pointer (some ⟨gc,0,none⟩)) rfl (by kernel_rfl) (by kernel_rfl) (by kernel_rfl) (fun _ _ _ h=>h) (.inl ⟨by rfl,fun w hSw=>by go_simp⟩) (by assumption) ?_;simp only [Act.put,Zb,Zc,Zd];refine Zp (rs:=[3]) (by kernel_rfl) (by simp) ?_;refine Zl (o:=⟨some 23,.call ⟨.value (.func 102),#[.tmp 22,.const (.int .i64 32)],_⟩,_,_,_,_⟩) rfl (fun K hK=>?_) Zo;go_simp;refine (N8.out.drew.take 32 44 rfl HL.out (by omega)).mono ?_;rintro e wt7 ⟨At7,ct7,rfl,HT7,HQ7,NT7⟩;refine hK.out _ _ trivial (fun _hH=>?_);clear hK K;refine Zp (rs:=[4]) (by kernel_rfl) (by simp) ?_;refine Zl (o:=⟨some 24,.call ⟨.value (.func 103),#[.tmp 21,.tmp 23],_⟩,_,_,_,_⟩) rfl (fun K hK=>?_) Zo;go_simp;refine (unpackbits_any g4 1 32 256 ct7 256 76 (fun j=>L.getD (12+j) 0) (fun i=>(pr s L i 0 0).cs) rfl (fun i hi=>pr_u s L i (by omega)) (fun i hi=>⟨_,Sup.c_u _ (by omega)⟩) (by omega) At7 wt7 HT7.out HQ7.out (by exact NT7.out.r4)).mono ?_;rintro e wu7 ⟨rfl,hru7,hgu7⟩;have NU7:=Za (NT7.out.row hru7.out hgu7.out);clear HT7 HQ7 NT7 hru7 hgu7;refine hK.out _ _ trivial (fun _hH1=>?_);clear hK K;refine Yg (by kernel_rfl) ?_ _;go_wp2_with fail;go_loopw [25] (fun x wr=>∃ k:Nat,Hid (k≤64)∧x=.int .i64 (k:Int)∧Hid (US w wr gc g2 g4 L (44+2*k) (pr s L 256 k 0))) (fun x _=>64 - (intOf x).toNat)
  case atStart=>exact ⟨0,Za (by omega),rfl,NU7⟩
  case round=>
    clear NU7 N8;obtain ⟨k,HK,rfl,NR⟩:=hrel;have hkw:IntKind.i64.wrap ((k:Int)+1)=(k:Int)+1:=by rw [Zg];have:=HK.out;omega
    by_cases hk:k<64
    · have hki : (k :Int)<64:=by omega
      have hk0:(0:Int)≤(k:Int):=by omega
      have HKL:=Za hk;obtain ⟨x,hx⟩:∃ x,num ((L.drop (44+2*k)).take 2)=x:=⟨_,rfl⟩;have bx:x<65536:=by rw [← hx];exact num_take_lt _ 2
      have wx:IntKind.i64.wrap (x:Int)=(x:Int):=by rw [Zg];omega
      have HNM:=Za (NR.out.num 2 (44+2*(k+1)) (.inr (.inl rfl)) (by omega) HL.out (by omega));rw [hx] at HNM;obtain ⟨p,hp⟩:∃ p,k+1=p:=⟨_,rfl⟩;have hpw:IntKind.i64.wrap ((k:Int)+1)=(p:Int):=by rw [hkw];omega
      have hpe:(k:Int)+1=(p:Int):=by omega
      have hpn:(p:Int)<65:=by omega
      have hp0:(0:Int)≤(p:Int):=by omega
      have HP:=Za hp;have HXI:=Za (p:=srI L k=(x:Int)) (by unfold srI;rw [hx]);have HCI:Hid (∀ W,US w W gc g2 g4 L (44+2*(k+1)) (pr s L 256 k 0)→(∃ z,W.cell? ⟨g4,257+p,none⟩=some (.int .i64 z))∧W.frozen? ⟨g4,257+p,none⟩=false):=Za (fun W h=>⟨⟨_,by rw [h.r4.cell,Sup.c_i _ (by omega)]⟩,h.r4.free _⟩);clear hk hx bx hp hkw
      go_wp2_with (go_at_call 74;refine HNM.out.mono ?_;rintro e w9 ⟨rfl,N9⟩;obtain ⟨z9,cz9⟩:=(HCI.out _ N9.out).1
                   have fz9:=(HCI.out _ N9.out).2;have N10:=Za (p:=US w (w9.setCell ⟨g4,257+p,none⟩ (.int .i64 (x:Int))) gc g2 g4 L (44+2*(k+1)) (pr s L 256 (k+1) 0)) (N9.out.row (by rw [← pr_i s L k HKL.out,HXI.out,HP.out];exact N9.out.r4.put _ _) (grown_set w9 ⟨g4,257+p,none⟩ _)))
      clear cz9 fz9 N9 HNM;go_roundw
      case rel=>exact ⟨k+1,Za HKL.out,(by first | go_num | exact congrArg (Value.int .i64) (by have:=HP.out;omega)),N10⟩
      case measure=>have:=HKL.out;have:=HP.out;simp [intOf];omega
    · obtain rfl:k=64:=by have:=HK.out;omega
      have hki:¬ ((64:Nat):Int)<64:=by omega
      clear hk hkw;go_wp2_with fail;refine Zq (S:=fun _=>True) (by kernel_rfl) trivial (fun hHeld=>?_);refine Ze (i:=0) (oi:=⟨some 36,.fieldAddr 76 (.tmp 4) 3,_,_,_,_⟩) (v:=.pointer (some ⟨g4,322,none⟩)) rfl (by kernel_rfl) (by kernel_rfl) (by kernel_rfl) (fun _ _ _ h=>h) (.inl ⟨by rfl,fun w hSw=>by go_simp⟩) (by assumption) ?_;simp only [Act.put,Zb,Zc,Zd];refine Ze (i:=1) (oi:=⟨some 37,.slice 74 (.tmp 36) (some (.const (.int .i64 1))) none none,_,_,_,_⟩) (v:=.slice (some ⟨g4,323,none⟩) 64 64) rfl (by kernel_rfl) (by kernel_rfl) (by kernel_rfl) (fun _ _ _ h=>h) (.inl ⟨by rfl,fun w hSw=>by go_simp⟩) (by assumption) ?_;simp only [Act.put,Zb,Zc,Zd];refine Ze (i:=2) (oi:=⟨some 38,.move (.tmp 5),_,_,_,_⟩) (v:=.pointer (some ⟨gc,0,none⟩)) rfl (by kernel_rfl) (by kernel_rfl) (by kernel_rfl) (fun _ _ _ h=>h) (.inl ⟨by rfl,fun w hSw=>by go_simp⟩) (by assumption) ?_;simp only [Act.put,Zb,Zc,Zd];refine Zp (rs:=[3]) (by kernel_rfl) (by simp) ?_;refine Zl (o:=⟨some 39,.call ⟨.value (.func 102),#[.tmp 38,.const (.int .i64 8)],_⟩,_,_,_,_⟩) rfl (fun K hK=>?_) Zo;go_simp;refine (NR.out.drew.take 8 180 rfl HL.out (by omega)).mono ?_;rintro e wt13 ⟨At13,ct13,rfl,HT13,HQ13,NT13⟩;refine hK.out _ _ trivial (fun _hH=>?_);clear hK K;refine Zp (rs:=[4]) (by kernel_rfl) (by simp) ?_;refine Zl (o:=⟨some 40,.call ⟨.value (.func 103),#[.tmp 37,.tmp 39],_⟩,_,_,_,_⟩) rfl (fun K hK=>?_) Zo;go_simp;refine (unpackbits_any g4 323 8 64 ct13 64 76 (fun j=>L.getD (172+j) 0) (fun i=>(pr s L 256 64 i).cs) rfl (fun i hi=>pr_o s L i (by omega)) (fun i hi=>⟨_,by rw [show 323+i=322+(i+1) by omega];exact Sup.c_o _ (by omega)⟩) (by omega) At13 wt13 HT13.out HQ13.out (by exact NT13.out.r4)).mono ?_;rintro e wu13 ⟨rfl,hru13,hgu13⟩;have NU13:=Za (NT13.out.row hru13.out hgu13.out);clear HT13 HQ13 NT13 hru13 hgu13;refine hK.out _ _ trivial (fun _hH1=>?_);clear hK K;refine Yg (by kernel_rfl) ?_ _;have NF:=Za (p:=US w wu13 gc g2 g4 L 180 (sr L)) (by unfold sr;rw [HS.out];exact NU13.out);clear NU13 NR
      go_wp2_with (first
        | (refine step_load rfl 42 rfl 76 (.tmp 4) rfl g4 rfl (sr L).cs _ NF.out.r4.all Yj rfl (i1.out _) ?_)
        | (go_at_call 104;refine (HP.out _).mono ?_;rintro e8 w18 ⟨g8,c8,rfl,ho8,hb8⟩;have R10:=Za (NF.out.r4.kept hb8.out)
           have R28:=Za (NF.out.r2.kept hb8.out);have HB8:=Za (below_nxt hb8.out NF.out.b);have HH8:=Za (Hol.own ho8.out);clear hb8 ho8)
        | (go_at_call 75;refine (bequal_any (some ⟨g8,0,none⟩) A 256 256 c8 cb (lst 256 (sr L).pb) L (lst_len _ _).symm HL.out.symm _ HH8.out (HA.out.below HB8.out)).mono ?_;rintro e9 w19 ⟨rfl,hw9⟩;obtain rfl:=hw9.symm;rw [HE.out])
        | (refine step_build rfl 76 #[] rfl [] ?hv _ built_sup0 ?_;case hv=>simp)
        | (refine step_store rfl 76 (.tmp 2) (.tmp 54) rfl g2 (by rfl) _ sup0.cs sup0.cs (by rfl) R28.out (by rw [Sup.cs_len]) (i1.out _) (Sup.cs_one _) ?_;intro w9 hr9 hg9 hs9))
      refine Yd (results_row_tmp rfl _ _ g2 _ _ _ _ rfl hr9 Yj rfl (by simpa using i1.out sup0)) rfl ?_;exact ⟨rfl,HB8.out.grown hg9 HB8.out.size (fun q hq=>by injection hq with hq;subst hq;exact Q2.out)⟩
theorem gunpack_may (A:Option Addr) (cb:Nat) (L:List UInt8) (hn:L.length=256) (hm:¬ (sr L).May) (w:World) (hA:Hol w A L):
    Calls Tryz.prog 63 #[.slice A 256 cb] w fun e w'=>e=.returned (.tuple #[.agg sup0.cs.toArray,.int .i64 210])∧Below w.heap.size w w':=by
  have i1:=Za (fun x:Sup=>info_cs x);have hz:=Za zero_sup
  have HNew:Hid (∀ w',Below w.heap.size w w'→Calls Tryz.prog 73 #[.slice A 256 cb] w' fun e w''=>∃ g,e=.returned (.pointer (some ⟨g,0,none⟩))∧w'.heap.size≤g∧Cur w'' g L false∧Below w'.heap.size w' w''):=fun w' hb=>by
    have h:=cur_new_any A cb L w' (hA.below hb) (by omega);rwa [hn] at h
  have HA:=Za hA;have HL:=Za hn;have HP:=Za (fun w=>gpack_not (sr L) hm w);clear hm hA hn;go_enter Tryz.func63,Tryz.ntmps63
  go_wp2_with (first
    | (refine step_alloc rfl 2 rfl 76 rfl _ hz.out ?_;intro g2 w2 hr2 hg2 hb2 hs2;have R2:=Za hr2
       have HB2:=Za hb2;have Q2:=Za (p:=w.heap.size≤g2) (by rw [hg2.out];exact Zj _);clear hr2 hb2 hg2 hs2)
    | (refine step_alloc rfl 4 rfl 76 rfl _ hz.out ?_;intro g4 w4 hr4 hg4 hb4 hs4;have R4:=Za hr4
       have R24:=Za (R2.out.kept hb4);have HB4:=Za (below_nxt hb4 HB2.out);have N24:=Za (p:=g2<g4) (by rw [hg4.out];exact R2.out.lt);clear hr4 hb4 hg4 hs4)
    | (go_at_call 73;refine (HNew.out _ HB4.out).mono ?_;rintro e5 w5 ⟨gc,rfl,hq5,hc5,hb5⟩;have NS:=Za (p:=US w w5 gc g2 g4 L 0 (pr 0 L 0 0 0)) ⟨by rw [List.drop_zero];exact hc5,R24.out.kept hb5,by rw [← pr_zero];exact R4.out.kept hb5,⟨N24.out,Yc R4.out.lt hq5⟩,Q2.out,HB4.out.trans (hb5.mono HB4.out.size)⟩
       clear hq5 hc5 hb5 R4 R24 HB4))
  refine (NS.out.take 4 4 rfl HL.out (by omega)).mono ?_;rintro e w6 ⟨A6,c6,rfl,_,_,N6⟩;go_wp2_with fail;refine (N6.out.num 8 12 (.inr (.inr (.inr rfl))) rfl HL.out (by omega)).mono ?_;rintro e w7 ⟨rfl,N7⟩;have c0:w7.cell? ⟨g4,0,none⟩=some (.int .u64 0):=by rw [N7.out.r4.cell];rfl
  have f0:=N7.out.r4.free 0;have HSS:=Za (p:=num ((L.drop 4).take 8)=srS L) rfl;rw [HSS.out];obtain ⟨s,hs⟩:∃ s,srS L=s:=⟨_,rfl⟩;rw [hs];have HS:=Za hs;have N8:=Za (p:=US w (w7.setCell ⟨g4,0,none⟩ (.int .u64 (s:Int))) gc g2 g4 L 12 (pr s L 0 0 0)) (N7.out.row (by rw [← pr_s];exact N7.out.r4.put 0 _) (grown_set w7 ⟨g4,0,none⟩ _));clear hs;go_wp2_with fail;clear c0 f0 NS N6 N7;generalize w7.setCell ⟨g4,0,none⟩ (.int .u64 (s:Int))=w8 at*;refine Zq (S:=fun _=>True) (by kernel_rfl) trivial (fun hHeld=>?_);refine Ze (i:=0) (oi:=⟨some 20,.fieldAddr 76 (.tmp 4) 1,_,_,_,_⟩) (v:=.pointer (some ⟨g4,1,none⟩)) rfl (by kernel_rfl) (by kernel_rfl) (by kernel_rfl) (fun _ _ _ h=>h) (.inl ⟨by rfl,fun w hSw=>by go_simp⟩) (by assumption) ?_;simp only [Act.put,Zb,Zc,Zd];refine Ze (i:=1) (oi:=⟨some 21,.slice 72 (.tmp 20) none none none,_,_,_,_⟩) (v:=.slice (some ⟨g4,1,none⟩) 256 256) rfl (by kernel_rfl) (by kernel_rfl) (by kernel_rfl) (fun _ _ _ h=>h) (.inl ⟨by rfl,fun w hSw=>by go_simp⟩) (by assumption) ?_;simp only [Act.put,Zb,Zc,Zd];refine Ze (i:=2) (oi:=⟨some 22,.move (.tmp 5),_,_,_,_⟩) (v:=.pointer (some ⟨gc,0,none⟩)) rfl (by kernel_rfl) (by kernel_rfl) (by kernel_rfl) (fun _ _ _ h=>h) (.inl ⟨by rfl,fun w hSw=>by go_simp⟩) (by assumption) ?_;simp only [Act.put,Zb,Zc,Zd];refine Zp (rs:=[3]) (by kernel_rfl) (by simp) ?_;refine Zl (o:=⟨some 23,.call ⟨.value (.func 102),#[.tmp 22,.const (.int .i64 32)],_⟩,_,_,_,_⟩) rfl (fun K hK=>?_) Zo;go_simp;refine (N8.out.drew.take 32 44 rfl HL.out (by omega)).mono ?_;rintro e wt7 ⟨At7,ct7,rfl,HT7,HQ7,NT7⟩;refine hK.out _ _ trivial (fun _hH=>?_);clear hK K;refine Zp (rs:=[4]) (by kernel_rfl) (by simp) ?_;refine Zl (o:=⟨some 24,.call ⟨.value (.func 103),#[.tmp 21,.tmp 23],_⟩,_,_,_,_⟩) rfl (fun K hK=>?_) Zo;go_simp;refine (unpackbits_any g4 1 32 256 ct7 256 76 (fun j=>L.getD (12+j) 0) (fun i=>(pr s L i 0 0).cs) rfl (fun i hi=>pr_u s L i (by omega)) (fun i hi=>⟨_,Sup.c_u _ (by omega)⟩) (by omega) At7 wt7 HT7.out HQ7.out (by exact NT7.out.r4)).mono ?_;rintro e wu7 ⟨rfl,hru7,hgu7⟩;have NU7:=Za (NT7.out.row hru7.out hgu7.out);clear HT7 HQ7 NT7 hru7 hgu7;refine hK.out _ _ trivial (fun _hH1=>?_);clear hK K;refine Yg (by kernel_rfl) ?_ _;go_wp2_with fail;go_loopw [25] (fun x wr=>∃ k:Nat,Hid (k≤64)∧x=.int .i64 (k:Int)∧Hid (US w wr gc g2 g4 L (44+2*k) (pr s L 256 k 0))) (fun x _=>64 - (intOf x).toNat)
  case atStart=>exact ⟨0,Za (by omega),rfl,NU7⟩
  case round=>
    clear NU7 N8;obtain ⟨k,HK,rfl,NR⟩:=hrel;have hkw:IntKind.i64.wrap ((k:Int)+1)=(k:Int)+1:=by rw [Zg];have:=HK.out;omega
    by_cases hk:k<64
    · have hki : (k :Int)<64:=by omega
      have hk0:(0:Int)≤(k:Int):=by omega
      have HKL:=Za hk;obtain ⟨x,hx⟩:∃ x,num ((L.drop (44+2*k)).take 2)=x:=⟨_,rfl⟩;have bx:x<65536:=by rw [← hx];exact num_take_lt _ 2
      have wx:IntKind.i64.wrap (x:Int)=(x:Int):=by rw [Zg];omega
      have HNM:=Za (NR.out.num 2 (44+2*(k+1)) (.inr (.inl rfl)) (by omega) HL.out (by omega));rw [hx] at HNM;obtain ⟨p,hp⟩:∃ p,k+1=p:=⟨_,rfl⟩;have hpw:IntKind.i64.wrap ((k:Int)+1)=(p:Int):=by rw [hkw];omega
      have hpe:(k:Int)+1=(p:Int):=by omega
      have hpn:(p:Int)<65:=by omega
      have hp0:(0:Int)≤(p:Int):=by omega
      have HP:=Za hp;have HXI:=Za (p:=srI L k=(x:Int)) (by unfold srI;rw [hx]);have HCI:Hid (∀ W,US w W gc g2 g4 L (44+2*(k+1)) (pr s L 256 k 0)→(∃ z,W.cell? ⟨g4,257+p,none⟩=some (.int .i64 z))∧W.frozen? ⟨g4,257+p,none⟩=false):=Za (fun W h=>⟨⟨_,by rw [h.r4.cell,Sup.c_i _ (by omega)]⟩,h.r4.free _⟩);clear hk hx bx hp hkw
      go_wp2_with (go_at_call 74;refine HNM.out.mono ?_;rintro e w9 ⟨rfl,N9⟩;obtain ⟨z9,cz9⟩:=(HCI.out _ N9.out).1
                   have fz9:=(HCI.out _ N9.out).2;have N10:=Za (p:=US w (w9.setCell ⟨g4,257+p,none⟩ (.int .i64 (x:Int))) gc g2 g4 L (44+2*(k+1)) (pr s L 256 (k+1) 0)) (N9.out.row (by rw [← pr_i s L k HKL.out,HXI.out,HP.out];exact N9.out.r4.put _ _) (grown_set w9 ⟨g4,257+p,none⟩ _)))
      clear cz9 fz9 N9 HNM;go_roundw
      case rel=>exact ⟨k+1,Za HKL.out,(by first | go_num | exact congrArg (Value.int .i64) (by have:=HP.out;omega)),N10⟩
      case measure=>have:=HKL.out;have:=HP.out;simp [intOf];omega
    · obtain rfl:k=64:=by have:=HK.out;omega
      have hki:¬ ((64:Nat):Int)<64:=by omega
      clear hk hkw;go_wp2_with fail;refine Zq (S:=fun _=>True) (by kernel_rfl) trivial (fun hHeld=>?_);refine Ze (i:=0) (oi:=⟨some 36,.fieldAddr 76 (.tmp 4) 3,_,_,_,_⟩) (v:=.pointer (some ⟨g4,322,none⟩)) rfl (by kernel_rfl) (by kernel_rfl) (by kernel_rfl) (fun _ _ _ h=>h) (.inl ⟨by rfl,fun w hSw=>by go_simp⟩) (by assumption) ?_;simp only [Act.put,Zb,Zc,Zd];refine Ze (i:=1) (oi:=⟨some 37,.slice 74 (.tmp 36) (some (.const (.int .i64 1))) none none,_,_,_,_⟩) (v:=.slice (some ⟨g4,323,none⟩) 64 64) rfl (by kernel_rfl) (by kernel_rfl) (by kernel_rfl) (fun _ _ _ h=>h) (.inl ⟨by rfl,fun w hSw=>by go_simp⟩) (by assumption) ?_;simp only [Act.put,Zb,Zc,Zd];refine Ze (i:=2) (oi:=⟨some 38,.move (.tmp 5),_,_,_,_⟩) (v:=.pointer (some ⟨gc,0,none⟩)) rfl (by kernel_rfl) (by kernel_rfl) (by kernel_rfl) (fun _ _ _ h=>h) (.inl ⟨by rfl,fun w hSw=>by go_simp⟩) (by assumption) ?_;simp only [Act.put,Zb,Zc,Zd];refine Zp (rs:=[3]) (by kernel_rfl) (by simp) ?_;refine Zl (o:=⟨some 39,.call ⟨.value (.func 102),#[.tmp 38,.const (.int .i64 8)],_⟩,_,_,_,_⟩) rfl (fun K hK=>?_) Zo;go_simp;refine (NR.out.drew.take 8 180 rfl HL.out (by omega)).mono ?_;rintro e wt13 ⟨At13,ct13,rfl,HT13,HQ13,NT13⟩;refine hK.out _ _ trivial (fun _hH=>?_);clear hK K;refine Zp (rs:=[4]) (by kernel_rfl) (by simp) ?_;refine Zl (o:=⟨some 40,.call ⟨.value (.func 103),#[.tmp 37,.tmp 39],_⟩,_,_,_,_⟩) rfl (fun K hK=>?_) Zo;go_simp;refine (unpackbits_any g4 323 8 64 ct13 64 76 (fun j=>L.getD (172+j) 0) (fun i=>(pr s L 256 64 i).cs) rfl (fun i hi=>pr_o s L i (by omega)) (fun i hi=>⟨_,by rw [show 323+i=322+(i+1) by omega];exact Sup.c_o _ (by omega)⟩) (by omega) At13 wt13 HT13.out HQ13.out (by exact NT13.out.r4)).mono ?_;rintro e wu13 ⟨rfl,hru13,hgu13⟩;have NU13:=Za (NT13.out.row hru13.out hgu13.out);clear HT13 HQ13 NT13 hru13 hgu13;refine hK.out _ _ trivial (fun _hH1=>?_);clear hK K;refine Yg (by kernel_rfl) ?_ _;have NF:=Za (p:=US w wu13 gc g2 g4 L 180 (sr L)) (by unfold sr;rw [HS.out];exact NU13.out);clear NU13 NR
      go_wp2_with (first
        | (refine step_load rfl 42 rfl 76 (.tmp 4) rfl g4 rfl (sr L).cs _ NF.out.r4.all Yj rfl (i1.out _) ?_)
        | (go_at_call 104;refine (HP.out _).mono ?_;rintro e8 w18 ⟨rfl,hb8⟩;have R10:=Za (NF.out.r4.kept hb8)
           have R28:=Za (NF.out.r2.kept hb8);have HB8:=Za (below_nxt hb8 NF.out.b);clear hb8)
        | (refine step_build rfl 76 #[] rfl [] ?hv _ built_sup0 ?_;case hv=>simp)
        | (refine step_store rfl 76 (.tmp 2) (.tmp 54) rfl g2 (by rfl) _ sup0.cs sup0.cs (by rfl) R28.out (by rw [Sup.cs_len]) (i1.out _) (Sup.cs_one _) ?_;intro w9 hr9 hg9 hs9))
      refine Yd (results_row_tmp rfl _ _ g2 _ _ _ _ rfl hr9 Yj rfl (by simpa using i1.out sup0)) rfl ?_;exact ⟨rfl,HB8.out.grown hg9 HB8.out.size (fun q hq=>by injection hq with hq;subst hq;exact Q2.out)⟩
theorem gunpack_len (A:Option Addr) (n cb:Nat) (h256:n≠256) (hlen:n<9223372036854775808) (w:World):
    Calls Tryz.prog 63 #[.slice A n cb] w fun e w'=>e=.returned (.tuple #[.agg sup0.cs.toArray,.int .i64 210])∧Below w.heap.size w w':=by
  have i1:=Za (fun x:Sup=>info_cs x);have hz:=Za zero_sup;have hne:((n:Int) !=256)=true:=by simp;omega
  have hlen':(n:Int)≤9223372036854775807:=by omega
  clear hlen h256;go_enter Tryz.func63,Tryz.ntmps63
  go_wp2_with (first
    | (refine step_alloc rfl 2 rfl 76 rfl _ hz.out ?_;intro g2 w2 hr2 hg2 hb2 hs2;have R2:=Za hr2
       have HB2:=Za hb2;have Q2:=Za (p:=w.heap.size≤g2) (by rw [hg2.out];exact Zj _);clear hr2 hb2 hg2 hs2)
    | (refine step_build rfl 76 #[] rfl [] ?hv _ built_sup0 ?_;case hv=>simp)
    | (refine step_store rfl 76 (.tmp 2) (.tmp 12) rfl g2 (by rfl) _ sup0.cs sup0.cs (by rfl) R2.out (by rw [Sup.cs_len]) (i1.out _) (Sup.cs_one _) ?_;intro w9 hr9 hg9 hs9))
  refine Yd (results_row_tmp rfl _ _ g2 _ _ _ _ rfl hr9 Yj rfl (by simpa using i1.out sup0)) rfl ?_;exact ⟨rfl,HB2.out.grown hg9 HB2.out.size (fun q hq=>by injection hq with hq;subst hq;exact Q2.out)⟩
theorem gunpack_not (A:Option Addr) (n cb:Nat) (L:List UInt8) (hn:L.length=n) (hlen:n<9223372036854775808) (hno:¬ SOk L) (w:World) (hA:Hol w A L):
    Calls Tryz.prog 63 #[.slice A n cb] w fun e w'=>e=.returned (.tuple #[.agg sup0.cs.toArray,.int .i64 210])∧Below w.heap.size w w':=by
  by_cases h256:n=256
  · subst h256;by_cases hm:(sr L).May
    · exact gunpack_diff A cb L hn hm (fun h=>hno ⟨hn,hm,h⟩) w hA
    · exact gunpack_may A cb L hn hm w hA
  · exact gunpack_len A n cb h256 hlen w
end Go.Proofs.YtijffkklhgnknaaGreatDoor
