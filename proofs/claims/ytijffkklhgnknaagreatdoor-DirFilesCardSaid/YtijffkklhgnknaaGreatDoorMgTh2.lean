/- The reference's Num of a longer slice; slices of bytes, cut. No conditions. -/
import Derived.Test.YtijffkklhgnknaaGreatDoorAz
import Derived.Test.YtijffkklhgnknaaGreatDoorMgRef2
import Derived.Test.YtijffkklhgnknaaGreatDoorMgRa
import Derived.Test.YtijffkklhgnknaaGreatDoorMgMem
import Derived.Test.YtijffkklhgnknaaGreatDoorMgRe
import Derived.Test.YtijffkklhgnknaaGreatDoorMgUb
import Derived.Test.YtijffkklhgnknaaGreatDoorMgRunesRef2
set_option maxHeartbeats 20000000
set_option linter.unusedVariables false
set_option maxRecDepth 20000
namespace Go.Proofs.YtijffkklhgnknaaGreatDoor
open Go.RowKit
theorem rnum_long (A:Option Addr) (c L n:Nat) (l:List UInt8) (hn:n=l.length) (hL:n≤L) (w:World) (hA:Hol w A l) (hl:n≤8):
    Calls Tryz.prog 55 #[.slice A L c,.int .i64 n] w fun e w'=>e=.returned (.int .u64 (num l:Nat))∧w=w':=by
  subst hn;go_enter Tryz.func55,Tryz.ntmps55;go_wp2;go_loop [5,6] (fun v i=>∃ j:Nat,j≤l.length∧i=.int .i64 ((j:Int) - 1)∧v=.int .u64 (num (l.drop j):Nat)) (fun _ i=>(intOf i+1).toNat)
  case atStart=>exact ⟨l.length,Zj _,rfl,by rw [List.drop_length];rfl⟩
  case round=>
    obtain ⟨j,hj,rfl,rfl⟩:=hrel;by_cases h0:0<j
    · obtain ⟨k,rfl⟩:∃ k,j=k+1:=⟨j - 1,by omega⟩;have hlt:k<l.length:=by omega
      obtain ⟨g,o,rfl,_,hc⟩:=hA.at_ hlt;have hnd:=num_drop l k hlt;have hbd:=num_lt (l.drop k);have hpw:256 ^ (l.drop k).length≤256 ^ 8:=Nat.pow_le_pow_right (by decide) (by rw [Zs];omega);have hb2:num (l.drop k)<18446744073709551616:=Yc hbd hpw;clear hbd hpw;obtain ⟨x,hx⟩:∃ x,l[k]=x:=⟨_,rfl⟩;rw [hx] at hc hnd;have hX:x.toNat<256:=x.toNat_lt;generalize num (l.drop (k+1))=N at hnd ⊢;have hb3:x.toNat+256*N<18446744073709551616:=by omega
      have HND:=Za hnd;have HX:=Za hx;clear hnd hx hb2;have hk1:((k+1:Nat):Int) - 1=(k:Int):=by omega
      rw [hk1];clear hk1;have hkz:(k:Int)<(L:Int):=by omega
      go_wp2;go_round
      case rel=>
        exact ⟨k,by omega,rfl,by rw [HND.out];exact congrArg (Value.int .u64) (by omega)⟩
      case measure=>simp [intOf]
    · obtain rfl:j=0:=by omega
      rw [List.drop_zero];have e0:((0:Nat):Int) - 1= -1:=rfl;rw [e0];clear e0;go_wp2;go_ret;exact ⟨rfl,rfl⟩
theorem cut8 (A:Option Addr) (c q n:Nat) (hn:n≤q) (hc:q≤c):
    ∃ A' c',(∀ W:World,(Instr.slice 23 (.slice A q c) (some (.int .i64 n)) none none).run Tryz.prog W=.ok (.slice A' (q - n) c') W)∧∀ (W:World) (l:List UInt8),l.length=q→Hol W A l→Hol W A' (l.drop n):=by
  refine ⟨if c=n then A else A.map (·.add n),c - n,fun W=>?_,fun W l hl h=>h.cut n (by omega)⟩;have h1:(0:Int)≤(n:Int):=by omega
  have h2:(n:Int)≤(q:Int):=by omega
  rw [run_slice_l (P:=Tryz.prog) W 23 A q c (by kernel_rfl) .i64 n h1 h2];have hs:(sizeOf (Tryz.prog.elem 23)).run Tryz.prog W=.ok 1 W:=by kernel_rfl
  rw [hs];simp [Result.andThen,sliced]
theorem cut8m (A:Option Addr) (c q lo hi:Nat) (h1:lo≤hi) (h2:hi≤q) (hc:q≤c):
    ∃ A' c',(∀ W:World,(Instr.slice 23 (.slice A q c) (some (.int .i64 lo)) (some (.int .i64 hi)) none).run Tryz.prog W=.ok (.slice A' (hi - lo) c') W)∧∀ (W:World) (l:List UInt8),l.length=q→Hol W A l→Hol W A' (sub l lo (hi - lo)):=by
  refine ⟨if c=lo then A else A.map (·.add lo),c - lo,fun W=>?_,fun W l hl h=>(h.cut lo (by omega)).take_ _⟩;have e1:(0:Int)≤(lo:Int):=by omega
  have e2:(lo:Int)≤(hi:Int):=by omega
  have e3:(hi:Int)≤(c:Int):=by omega
  rw [run_slice_lh (P:=Tryz.prog) W 23 A q c (by kernel_rfl) .i64 .i64 lo hi e1 e2 e3];have hs:(sizeOf (Tryz.prog.elem 23)).run Tryz.prog W=.ok 1 W:=by kernel_rfl
  rw [hs];simp [Result.andThen,sliced]
theorem rbuilt_ref (i s:Int):Tryz.prog.built 36 [(0,.int .i64 i),(1,.int .u64 s)]=some #[.int .i64 i,.int .u64 s]:=by kernel_rfl
theorem rbuilt_ent (nm:ByteArray) (i s k c:Int):Tryz.prog.built 61 [(0,.string nm),(1,.agg #[.int .i64 i,.int .u64 s]),(2,.int .i64 k),(3,.int .u32 c)]=some #[.string nm,.int .i64 i,.int .u64 s,.int .i64 k,.int .u32 c]:=by kernel_rfl
theorem irun_build {P:Program} (w:World) {a:Act} (o:Oper) (t:TypeId) (parts:Array (Nat × Operand)) (ho:o.op=.build t parts) (vs:List (Nat × Value)) (hv:(parts.map fun (i,x)=>(i,a.eval x)).toList=vs) (cells:Array Value) (hb:P.built t vs=some cells):(execOp a.eval o).run P w=.ok (.value (.agg cells)) w:=by
  subst hv;unfold execOp;simp only [ho,Sem.run_bind,run_build w t _ cells hb,Zw];rfl
/- The reference's Blocks:two rows of blocks compared. Conditions:no more than a million. -/
theorem rblocks_any (A B:Option Addr) (n m c d:Nat) (P Q:List BV) (hmax:n≤1000000) (hn:P.length=n) (hm:Q.length=m) (w:World) (hA:Lies sc 1 w A P) (hB:Lies sc 1 w B Q) (hP:∀ b ∈ P,Hol w b.A b.l∧b.l.length≤9223372036854775807) (hQ:∀ b ∈ Q,Hol w b.A b.l∧b.l.length≤9223372036854775807):
    Calls Tryz.prog 56 #[.slice A n c,.slice B m d] w fun e w'=>e=.returned (.bool (decide (P.map (·.l)=Q.map (·.l))))∧Below w.heap.size w w':=by
  obtain ⟨r,hr⟩:∃ r:Bool,decide (P.map (·.l)=Q.map (·.l))=r:=⟨_,rfl⟩;have HR:=Za hr;rw [hr];clear hr;have HN:=Za (And.intro hmax (And.intro hn hm));have HL:=Za (And.intro hA hB);have HH:=Za (And.intro hP hQ);clear hA hB hP hQ hmax hn hm;by_cases hnm:n=m
  · subst hnm; go_enter Tryz.func56,Tryz.ntmps56;go_wp2;go_loopw [5] (fun y wr=>∃ (k:Nat),Hid (k≤n)∧y=.int .i64 (k:Int)∧Hid ((P.map (·.l)).take k=(Q.map (·.l)).take k)∧Hid (Below w.heap.size w wr)) (fun y _=>n - (intOf y).toNat)
    case atStart=>exact ⟨0,Za (Nat.zero_le _),rfl,Za rfl,Za (Below.refl _ _)⟩
    case round=>
      obtain ⟨k,HKL,rfl,HE,HB⟩:=hrel
      rename World=>wr;by_cases hk:k<n
      · have hki : (k : Int)<(n:Int):=by omega
        have hkw:IntKind.i64.wrap ((k:Int)+1)=(k:Int)+1:=by rw [Zg];have:=HN.out;omega
        obtain ⟨x,hx⟩:∃ x,P[k]?=some x:=⟨_,Zh (by have:=HN.out;omega)⟩;obtain ⟨y,hy⟩:∃ y,Q[k]?=some y:=⟨_,Zh (by have:=HN.out;omega)⟩;obtain ⟨g0,o0,rfl,hc⟩:=(HL.out.1.below HB.out).at_ (Zn.1 hx).1
        obtain ⟨g1,o1,rfl,hc1⟩:=(HL.out.2.below HB.out).at_ (Zn.1 hy).1
        rw [(Zn.1 hx).2] at hc;rw [(Zn.1 hy).2] at hc1;have cx:wr.cell? ⟨g0,o0+k,none⟩=some (.slice x.A x.l.length x.c):=by have h9:=hc 0 _ rfl;simpa [bvv] using h9
        have cy:wr.cell? ⟨g1,o1+k,none⟩=some (.slice y.A y.l.length y.c):=by have h9:=hc1 0 _ rfl;simpa [bvv] using h9
        have HBE:=Za (fun w' (hb:Below w.heap.size w w')=>rbytes_any x.A y.A x.c y.c x.l y.l w' ((HH.out.1 x (Zx hx)).1.below hb) ((HH.out.2 y (Zx hy)).1.below hb) (HH.out.1 x (Zx hx)).2 (HH.out.2 y (Zx hy)).2);have HX:=Za (And.intro hx hy);have HK:=Za hk;clear hc hc1 hx hy hk;by_cases he:x.l=y.l
        · have HXE := Za he;clear he;go_wp2;go_still_tail 8,(by kernel_rfl);change wpList _ _ _ _ _ wr.drew
          go_wp2_with (go_at_call 91;refine (HBE.out _ (below_nxt (below_drw wr) HB.out)).mono ?_;rintro e w4 ⟨rfl,hb⟩;rw [decide_eq_true HXE.out];have HB4:=Za (below_nxt (below_nxt hb (below_drw wr)) HB.out)
                       clear hb)
          go_roundw
          case rel=>exact ⟨k+1,Za HK.out,by go_num,Za (eq_step HX.out.1 HX.out.2 HE.out HXE.out),HB4⟩
          case measure=>have:=HK.out;simp [intOf];omega
        · have HXE := Za he;clear he
          have hrf:r=false:=by
            rw [← HR.out];refine decide_eq_false (fun h=>HXE.out ?_);have h1:=congrArg (fun l=>l[k]?) h;simp only [List.getElem?_map,HX.out.1,HX.out.2,Option.map_some] at h1;exact Option.some.inj h1
          subst hrf;go_wp2;go_still_tail 8,(by kernel_rfl);change wpList _ _ _ _ _ wr.drew
          go_wp2_with (go_at_call 91;refine (HBE.out _ (below_nxt (below_drw wr) HB.out)).mono ?_;rintro e w4 ⟨rfl,hb⟩;rw [decide_eq_false HXE.out];have HB4:=Za (below_nxt (below_nxt hb (below_drw wr)) HB.out)
                       clear hb)
          go_ret;exact ⟨rfl,HB4.out⟩
      · have hki:¬ (k:Int)<(n:Int):=by omega
        have hrt:r=true:=by
          rw [← HR.out];have h1:=HE.out;rw [Zz (by rw [List.length_map];have:=HN.out;omega),Zz (by rw [List.length_map];have:=HN.out;omega)] at h1;exact decide_eq_true h1
        subst hrt;clear hk;go_wp2;go_ret;exact ⟨rfl,HB.out⟩
  · have hni:((n:Int) !=(m:Int))=true:=by rw [bne_iff_ne];omega
    have hrf:r=false:=by
      rw [← HR.out];refine decide_eq_false (fun h=>hnm ?_);have h1:=congrArg List.length h;rw [List.length_map,List.length_map] at h1;have:=HN.out;omega
    subst hrf;clear hnm;go_enter Tryz.func56,Tryz.ntmps56;go_wp2;go_ret;exact ⟨rfl,Below.refl _ _⟩
/- The reference's Parse. Conditions:no more than 100 blocks of no more than 2000 bytes. -/
theorem leavesN_len256:∀ (f:Nat) (X:List Ent),∀ b ∈ leavesN f X,b.length=256
  | 0,X,b,hb=>by simp [leavesN] at hb
  | f +1,X,b,hb=>by
    unfold leavesN at hb
    split at hb
    · cases hb
    · rcases List.mem_cons.1 hb with rfl | hb
      · exact leafB_len X
      · exact leavesN_len256 f _ b hb
def NumIs (A:Option Addr) (c L n:Nat) (v:Nat) (w:World):Prop:=Calls Tryz.prog 55 #[.slice A L c,.int .i64 (n:Int)] w fun e w'=>e=.returned (.int .u64 (v:Int))∧w'=w
theorem num_is {A:Option Addr} {c L n v:Nat} {l:List UInt8} {w:World} (hn:n=l.length) (hL:n≤L) (hA:Hol w A l) (hl:n≤8) (hv:num l=v):NumIs A c L n v w:=by
  subst hv;refine (rnum_long A c L n l hn hL w hA hl).mono ?_;rintro e w' ⟨rfl,rfl⟩;exact ⟨rfl,rfl⟩
theorem wide_snoc {L:List Ent} {x:Ent} (h:Wide L) (hx:x.ser<18446744073709551616∧x.ck<4294967296):Wide (L++[x]):=fun e he=>by
  rcases List.mem_append.1 he with he | he
  · exact h e he
  · rw [Zr] at he;rw [he];exact hx
theorem nm_snoc {M:Nat} {L:List Ent} {x:Ent} (h:∀ e ∈ L,e.nm.size≤M) (hx:x.nm.size≤M):∀ e ∈ L++[x],e.nm.size≤M:=fun e he=>by
  rcases List.mem_append.1 he with he | he
  · exact h e he
  · rw [Zr] at he;rw [he];exact hx
theorem rparse_any (A :Option Addr) (n c:Nat) (P:List BV) (hmax:n≤100000) (hn:P.length=n) (w:World) (hA:Lies sc 1 w A P) (hP:∀ b ∈ P,Hol w b.A b.l∧b.l.length≤2000∧b.l.length≤b.c):
    Calls Tryz.prog 22 #[.slice A n c] w (ParP w (prL (P.map (·.l))) (prE (P.map (·.l)))):=by
  obtain ⟨Bs,hBs⟩:∃ Bs,P.map (·.l)=Bs:=⟨_,rfl⟩
  have hM:∀ b ∈ Bs,b.length≤2000:=fun b hb=>by
    rw [← hBs] at hb;obtain ⟨x,hx,rfl⟩:=List.mem_map.1 hb;exact (hP x hx).2.1
  have hBl:Bs.length=n:=by rw [← hBs,List.length_map,hn]
  rw [hBs];have HL:=Za hA;have HP:=Za hP;have HN:=Za (And.intro hmax hn);have HBL:=Za hBl;have HBS:=Za hBs;have HM:=Za hM
  have HNO:=Za (p:=∀ w':World,¬ OkB Bs→Below w.heap.size w w'→ParP w (prL Bs) (prE Bs) (.returned (.tuple #[.slice none 0 0,.int .i64 5])) w') (fun w' h hb=>by
    obtain ⟨h1,h2⟩:=prL_no h;exact ⟨none,0,by rw [h1,h2];rfl,by rw [h1];exact Ye _ _ _ _,hb⟩)
  have HYES:=Za (p:=∀ (w':World) (A':Option Addr) (m c':Nat) (L:List Ent),OkB Bs→L=prs Bs→L.length=m→w'.ownsRow w.heap.size 61 5 (.slice A' m c') m (L.flatMap ecs)→Below w.heap.size w w'→ParP w (prL Bs) (prE Bs) (.returned (.tuple #[.slice A' m c',.int .i64 0])) w') (fun w' A' m c' L h hL hm ho hb=>by
    obtain ⟨h1,h2⟩:=prL_yes h;subst hm;exact ⟨A',c',by rw [h1,h2,hL],by rw [h1, ← hL];exact ho,hb⟩)
  clear hA hP hmax hn hBl hBs hM;go_enter Tryz.func22,Tryz.ntmps22;go_wp2;go_loopw [4,5] (fun x y wr=>∃ (i m c':Nat) (A':Option Addr) (L:List Ent),y=.int .i64 (i:Int)∧x=.slice A' m c'∧Hid (i≤n)∧Hid (L.length=m)∧Hid (m≤32)∧Hid (wr.ownsRow w.heap.size 61 5 (.slice A' m c') m (L.flatMap ecs))∧Hid (OkB Bs→L=prs (Bs.take i))∧Hid (Wide L∧∀ e ∈ L,e.nm.size≤65536)∧Hid (Below w.heap.size w wr)) (fun _ y _=>n - (intOf y).toNat)
  case atStart=>exact ⟨0,0,0,none,[],rfl,rfl,Za (Nat.zero_le _),Za rfl,Za (Nat.zero_le _),Za (Ye _ _ _ _),Za (fun _=>by simp [prs]),Za ⟨fun e he=>by (cases he),fun e he=>by (cases he)⟩,Za (Below.refl _ _)⟩
  case round =>
    obtain ⟨i,m0,c0',A0,L0,rfl,rfl,HIL,HML0,HM320,HO0,HK0,HW0,HB0⟩:=hrel
    rename World=>wo;by_cases hi:i<n
    · have hii : (i:Int)<(n:Int):=by omega
      have hiw:IntKind.i64.wrap ((i:Int)+1)=(i:Int)+1:=by rw [Zg];have:=HN.out;omega
      obtain ⟨x,hx⟩:∃ x,P[i]?=some x:=⟨_,Zh (by have:=HN.out;omega)⟩;obtain ⟨g0,o0,rfl,hc⟩:=(HL.out.below HB0.out).at_ (Zn.1 hx).1
      rw [(Zn.1 hx).2] at hc;obtain ⟨XA,xc,b⟩:=x;have cx:wo.cell? ⟨g0,o0+i,none⟩=some (.slice XA b.length xc):=by have h9:=hc 0 _ rfl;simpa [bvv] using h9
      have hxm:Hol w XA b∧b.length≤2000∧b.length≤xc:=HP.out _ (Zx hx);have HBK:=Za (p:=Bs[i]?=some b) (by rw [← HBS.out,List.getElem?_map,hx];rfl);have HI:=Za hi;by_cases hlen:b.length=256
      · rw [hlen] at cx;have HXC:=Za (p:=256≤xc) (by have:=hxm.2.2;omega);have HLN:=Za hlen;have HHOL:=Za hxm.1;obtain ⟨gb,ob,rfl,_,hcells⟩:=hxm.1.some_ (by omega)
        have HCELL:=Za (p:=∀ W,Below w.heap.size w W→∀ j y,b[j]?=some y→W.cell? ⟨gb,ob+j,none⟩=some (.int .u8 (y.toNat:Int))) (fun W hb j y hy=>by
          have h1:=hcells j y hy;exact (hb.cell (p:=⟨gb,ob+j,none⟩) (Ya w _ h1)).trans h1)
        obtain ⟨N,hN⟩:∃ N,(b[0]'(by omega)).toNat=N:=⟨_,rfl⟩;have HNB:=Za (p:=∀ h:0<b.length,(b[0]'h).toNat=N) (fun h=>hN);have HN256:=Za (p:=N<256) (by rw [← hN];exact (b[0]).toNat_lt);have uN:IntKind.i64.wrap (N:Int)=(N:Int):=by rw [Zg];have:=HN256.out;omega
        have HC00:=Za (p:=∀ W,Below w.heap.size w W→W.cell? ⟨gb,ob,none⟩=some (.int .u8 (N:Int))) (fun W hb=>by
          have h1:=HCELL.out W hb 0 _ (Zh (by have:=HLN.out;omega));rw [HNB.out _] at h1;exact h1)
        clear hc hx hi hlen hxm hcells hN;go_wp2;go_loopw [4,7,8] (fun x y z wr=>∃ (k p m c':Nat) (A':Option Addr) (L:List Ent),x=.slice A' m c'∧y=.int .i64 (p:Int)∧z=.int .i64 (k:Int)∧Hid (k≤N)∧Hid (1≤p∧p≤256)∧Hid (L.length=m)∧Hid (m≤32+k)∧Hid (wr.ownsRow w.heap.size 61 5 (.slice A' m c') m (L.flatMap ecs))∧Hid (MidB Bs i b k p L)∧Hid (Wide L∧∀ e ∈ L,e.nm.size≤65536)∧Hid (Below w.heap.size w wr)) (fun _ _ z _=>N - (intOf z).toNat)
        case atStart=>exact ⟨0,1,m0,c0',A0,L0,rfl,rfl,rfl,Za (Nat.zero_le _),Za ⟨by decide,by decide⟩,HML0,Za (by have:=HM320.out;omega),HO0,Za (MidB.begin HM.out HBK.out HK0.out),HW0,HB0⟩
        case round =>
          clear HO0 HK0 HW0 HML0 HM320 cx;obtain ⟨k,p,m,c',A4,L,rfl,rfl,rfl,HKN,HP256,HML,HMB,HO,HIN,HWD,HB⟩:=hrel
          rename World=>wr;have c0:=HC00.out wr HB.out;by_cases hk:k<N
          · have hki:(k:Int)<(N:Int):=by omega
            have hkw:IntKind.i64.wrap ((k:Int)+1)=(k:Int)+1:=by rw [Zg];have:=HN256.out;omega
            have HKK:=Za hk;obtain ⟨p16,hp16⟩:∃ q,p+16=q:=⟨_,rfl⟩;have w16:IntKind.i64.wrap ((p:Int)+16)=(p16:Int):=by rw [Zg];have:=HP256.out;omega
            have HP16:=Za hp16;by_cases h16:256<p16
            · have h16i:(256:Int)<(p16:Int):=by omega
              have HNOK:=Za (p:=¬ OkB Bs) (HIN.out.no (by have:=HLN.out;omega) (by rw [HNB.out _];exact hk) (by omega));clear hk hp16 h16;go_wp2;go_ret2;exact HNO.out _ HNOK.out HB.out
            · have h16i:¬ (256:Int)<(p16:Int):=by omega
              obtain ⟨p14,hp14⟩:∃ q,p+14=q:=⟨_,rfl⟩;have w14:IntKind.i64.wrap ((p:Int)+14)=(p14:Int):=by rw [Zg];have:=HP256.out;omega
              obtain ⟨nn,hnn⟩:∃ q,refN b p=q:=⟨_,rfl⟩;have hnn2:nn<65536:=by rw [← hnn];exact num_sub_lt b _ 2
              have un:IntKind.i64.wrap (nn:Int)=(nn:Int):=by rw [Zg];omega
              obtain ⟨B14,d14,hr14,hh14⟩:=cut8 (some ⟨gb,ob,none⟩) xc 256 p14 (by omega) HXC.out;obtain ⟨l14,hl14⟩:∃ q,256 - p14=q:=⟨_,rfl⟩;rw [hl14] at hr14;have N2:=Za (p:=NumIs B14 d14 l14 2 nn wr) (num_is (l:=sub b p14 2) (sub_full (by have:=HLN.out;omega)).symm (by omega) ((hh14 wr b HLN.out (HHOL.out.below HB.out)).take_ 2) (by decide) (by rw [← hnn, ← hp14];rfl));unfold NumIs at N2;obtain ⟨q,hq⟩:∃ q,p16+nn=q:=⟨_,rfl⟩;have wq:IntKind.i64.wrap ((p16:Int)+(nn:Int))=(q:Int):=by rw [Zg];omega
              by_cases hq256:256<q
              · have hqi:(256:Int)<(q:Int):=by omega
                have HNOK:=Za (p:=¬ OkB Bs) (HIN.out.no (by have:=HLN.out;omega) (by rw [HNB.out _];exact hk) (by rw [hnn];omega));clear hk hp16 h16 hp14 hnn hnn2 hh14 hl14 hq hq256;go_wp2_with (go_at_call 55;refine N2.out.mono ?_;rintro e w2 ⟨rfl,rfl⟩);go_ret2;exact HNO.out _ HNOK.out HB.out
              · have hqi:¬ (256:Int)<(q:Int):=by omega
                obtain ⟨p1,hp1⟩:∃ q,p+1=q:=⟨_,rfl⟩;obtain ⟨p2,hp2⟩:∃ q,p+2=q:=⟨_,rfl⟩;obtain ⟨p10,hp10⟩:∃ q,p+10=q:=⟨_,rfl⟩;have w1:IntKind.i64.wrap ((p:Int)+1)=(p1:Int):=by rw [Zg];have:=HP256.out;omega
                have w2:IntKind.i64.wrap ((p:Int)+2)=(p2:Int):=by rw [Zg];have:=HP256.out;omega
                have w10:IntKind.i64.wrap ((p:Int)+10)=(p10:Int):=by rw [Zg];have:=HP256.out;omega
                obtain ⟨i0,hi0⟩:∃ v,num (sub b p 1)=v:=⟨_,rfl⟩;obtain ⟨k0,hk0⟩:∃ v,num (sub b p1 1)=v:=⟨_,rfl⟩;obtain ⟨s8,hs8⟩:∃ v,num (sub b p2 8)=v:=⟨_,rfl⟩;obtain ⟨c4,hc4⟩:∃ v,num (sub b p10 4)=v:=⟨_,rfl⟩;have li0:i0<256:=by rw [← hi0];exact num_sub_lt b _ 1
                have lk0:k0<256:=by rw [← hk0];exact num_sub_lt b _ 1
                have lc4:c4<4294967296:=by rw [← hc4];exact num_sub_lt b _ 4
                have ui0:IntKind.i64.wrap (i0:Int)=(i0:Int):=by rw [Zg];omega
                have uk0:IntKind.i64.wrap (k0:Int)=(k0:Int):=by rw [Zg];omega
                have uc4:IntKind.u32.wrap (c4:Int)=(c4:Int):=by simp [IntKind.wrap,IntKind.bits,IntKind.signed];omega
                have hpi:(p:Int)<256:=by omega
                have hp1i:(p1:Int)<256:=by omega
                have HC0:=Za (p:=∀ W,Below w.heap.size w W→W.cell? ⟨gb,ob+p,none⟩=some (.int .u8 (i0:Int))) (fun W hb=>by
                  have h0:p<b.length:=by have:=HLN.out;omega
                  have h1:=HCELL.out W hb p _ (Zh h0);rw [← sub_one h0,hi0] at h1;exact h1)
                have HC1:=Za (p:=∀ W,Below w.heap.size w W→W.cell? ⟨gb,ob+p1,none⟩=some (.int .u8 (k0:Int))) (fun W hb=>by
                  have h0:p1<b.length:=by have:=HLN.out;omega
                  have h1:=HCELL.out W hb p1 _ (Zh h0);rw [← sub_one h0,hk0] at h1;exact h1)
                obtain ⟨x9,hx9⟩:∃ e:Ent,(⟨⟨(sub b p16 nn).toArray⟩,(i0:Int),s8,(k0:Int),c4⟩:Ent)=e:=⟨_,rfl⟩;have HX9:=Za (p:=refE b p=x9) (by rw [← hx9];unfold refE;rw [hnn,hp16,hp1,hp2,hp10,hi0,hk0,hs8,hc4]);have HBE:=Za (p:=Tryz.prog.built 61 [(0,.string ⟨(sub b p16 nn).toArray⟩),(1,.agg #[.int .i64 (i0:Int),.int .u64 (s8:Int)]),(2,.int .i64 (k0:Int)),(3,.int .u32 (c4:Int))]=some (ecs x9).toArray) (by rw [← hx9];exact rbuilt_ent _ _ _ _ _);have HBd:=Za (p:=Below w.heap.size w wr.drew) (below_nxt (below_drw wr) HB.out);have HOd:=Za (own_kept HO.out (below_drw wr));obtain ⟨B55,d55,hr55,hh55⟩:=cut8m (some ⟨gb,ob,none⟩) xc 256 p16 q (by omega) (by omega) HXC.out;obtain ⟨B65,d65,hr65,hh65⟩:=cut8 (some ⟨gb,ob,none⟩) xc 256 p2 (by omega) HXC.out;obtain ⟨B77,d77,hr77,hh77⟩:=cut8 (some ⟨gb,ob,none⟩) xc 256 p10 (by omega) HXC.out;have hqn:q - p16=nn:=by omega
                rw [hqn] at hr55 hh55;obtain ⟨l65,hl65⟩:∃ q,256 - p2=q:=⟨_,rfl⟩;rw [hl65] at hr65;obtain ⟨l77,hl77⟩:∃ q,256 - p10=q:=⟨_,rfl⟩;rw [hl77] at hr77;have HR55:=Za hr55;have HR65:=Za hr65;have HR77:=Za hr77;have HS56:=Za (p:=∀ W,Below w.heap.size w W→(convert 23 9 (.slice B55 nn d55)).run Tryz.prog W=.ok (.string ⟨(sub b p16 nn).toArray⟩) W) (fun W hb=>run_to_string (P:=Tryz.prog) W 23 9 5 B55 d55 nn (sub b p16 nn) (sub_full (by have:=HLN.out;omega)).symm Tryz.underlying23 Tryz.underlying5 Tryz.underlying9 (hh55 W b HLN.out (HHOL.out.below hb)));have N8:=Za (p:=NumIs B65 d65 l65 8 s8 wr.drew) (num_is (l:=sub b p2 8) (sub_full (by have:=HLN.out;omega)).symm (by omega) ((hh65 _ b HLN.out (HHOL.out.below HBd.out)).take_ 8) (by decide) hs8);have N4:=Za (p:=NumIs B77 d77 l77 4 c4 wr.drew) (num_is (l:=sub b p10 4) (sub_full (by have:=HLN.out;omega)).symm (by omega) ((hh77 _ b HLN.out (HHOL.out.below HBd.out)).take_ 4) (by decide) hc4);unfold NumIs at N8 N4;have HPQ:=Za (p:=p+16+refN b p=q∧1≤q∧q≤256) ⟨by rw [hp16,hnn,hq],by omega,by omega⟩
                have HSZ:=Za (p:=x9.nm.size≤65536∧x9.ser<18446744073709551616∧x9.ck<4294967296) (by
                  rw [← HX9.out];have h1:=refE_nm b p;exact ⟨by omega,refE_wide b p⟩)
                clear hk hp16 h16 hp14 hnn hnn2 hh14 hl14 hq hq256 hp1 hp2 hp10 hi0 hk0 hs8 hc4 li0 lk0 lc4 hx9 hr55 hr65 hr77 hh55 hh65 hh77 hqn hl65 hl77;go_upto_region 17 with (go_at_call 55;refine N2.out.mono ?_;rintro e w2' ⟨rfl,rfl⟩)
                refine Zq (S:=fun W=>Below w.heap.size w W) (by kernel_rfl) HBd.out (fun hHeld=>?_);refine Ze (i:=0) (oi:=⟨some 47,.move (.tmp 4),_,_,_,_⟩) (v:=.slice A4 m c') rfl (by kernel_rfl) (by kernel_rfl) (by kernel_rfl) (fun _ _ _ h=>h) (.inl ⟨by rfl,fun w hSw=>by go_simp⟩) (by assumption) ?_;simp only [Act.put,Zb,Zc,Zd];refine Ze (i:=1) (oi:=⟨some 48,.move (.tmp 6),_,_,_,_⟩) (v:=.slice (some ⟨gb,ob,none⟩) 256 xc) rfl (by kernel_rfl) (by kernel_rfl) (by kernel_rfl) (fun _ _ _ h=>h) (.inl ⟨by rfl,fun w hSw=>by go_simp⟩) (by assumption) ?_;simp only [Act.put,Zb,Zc,Zd];refine Ze (i:=2) (oi:=⟨some 49,.move (.tmp 7),_,_,_,_⟩) (v:=.int .i64 (p:Int)) rfl (by kernel_rfl) (by kernel_rfl) (by kernel_rfl) (fun _ _ _ h=>h) (.inl ⟨by rfl,fun w hSw=>by go_simp⟩) (by assumption) ?_;simp only [Act.put,Zb,Zc,Zd];refine Ze (i:=3) (oi:=⟨some 50,.binOp .add 3 (.tmp 49) (.const (.int .i64 16)) 3,_,_,_,_⟩) (v:=.int .i64 (p16:Int)) rfl (by kernel_rfl) (by kernel_rfl) (by kernel_rfl) (fun _ _ _ h=>h) (.inl ⟨by rfl,fun w hSw=>by go_simp⟩) (by assumption) ?_;simp only [Act.put,Zb,Zc,Zd];refine Ze (i:=4) (oi:=⟨some 51,.move (.tmp 7),_,_,_,_⟩) (v:=.int .i64 (p:Int)) rfl (by kernel_rfl) (by kernel_rfl) (by kernel_rfl) (fun _ _ _ h=>h) (.inl ⟨by rfl,fun w hSw=>by go_simp⟩) (by assumption) ?_;simp only [Act.put,Zb,Zc,Zd];refine Ze (i:=5) (oi:=⟨some 52,.binOp .add 3 (.tmp 51) (.const (.int .i64 16)) 3,_,_,_,_⟩) (v:=.int .i64 (p16:Int)) rfl (by kernel_rfl) (by kernel_rfl) (by kernel_rfl) (fun _ _ _ h=>h) (.inl ⟨by rfl,fun w hSw=>by go_simp⟩) (by assumption) ?_;simp only [Act.put,Zb,Zc,Zd];refine Ze (i:=6) (oi:=⟨some 53,.move (.tmp 9),_,_,_,_⟩) (v:=.int .i64 (nn:Int)) rfl (by kernel_rfl) (by kernel_rfl) (by kernel_rfl) (fun _ _ _ h=>h) (.inl ⟨by rfl,fun w hSw=>by go_simp⟩) (by assumption) ?_;simp only [Act.put,Zb,Zc,Zd];refine Ze (i:=7) (oi:=⟨some 54,.binOp .add 3 (.tmp 52) (.tmp 53) 3,_,_,_,_⟩) (v:=.int .i64 (q:Int)) rfl (by kernel_rfl) (by kernel_rfl) (by kernel_rfl) (fun _ _ _ h=>h) (.inl ⟨by rfl,fun w hSw=>by go_simp⟩) (by assumption) ?_;simp only [Act.put,Zb,Zc,Zd];refine Ze (i:=8) (oi:=⟨some 55,.slice 23 (.tmp 48) (some (.tmp 50)) (some (.tmp 54)) none,_,_,_,_⟩) (v:=.slice B55 nn d55) rfl (by kernel_rfl) (by kernel_rfl) (by kernel_rfl) (fun _ _ _ h=>h) (.inl ⟨by rfl,fun w hSw=>by have z:=HR55.out w;go_simp⟩) (by assumption) ?_;simp only [Act.put,Zb,Zc,Zd];refine Ze (i:=9) (oi:=⟨some 56,.convert 23 9 (.tmp 55),_,_,_,_⟩) (v:=.string ⟨(sub b p16 nn).toArray⟩) rfl (by kernel_rfl) (by kernel_rfl) (by kernel_rfl) (fun _ _ _ h=>h) (.inl ⟨by rfl,fun w hSw=>by have z:=HS56.out w hSw;go_simp⟩) (by assumption) ?_;simp only [Act.put,Zb,Zc,Zd];refine Ze (i:=10) (oi:=⟨some 57,.move (.tmp 6),_,_,_,_⟩) (v:=.slice (some ⟨gb,ob,none⟩) 256 xc) rfl (by kernel_rfl) (by kernel_rfl) (by kernel_rfl) (fun _ _ _ h=>h) (.inl ⟨by rfl,fun w hSw=>by go_simp⟩) (by assumption) ?_;simp only [Act.put,Zb,Zc,Zd];refine Ze (i:=11) (oi:=⟨some 58,.move (.tmp 7),_,_,_,_⟩) (v:=.int .i64 (p:Int)) rfl (by kernel_rfl) (by kernel_rfl) (by kernel_rfl) (fun _ _ _ h=>h) (.inl ⟨by rfl,fun w hSw=>by go_simp⟩) (by assumption) ?_;simp only [Act.put,Zb,Zc,Zd];refine Ze (i:=12) (oi:=⟨some 59,.indexAddr 23 (.tmp 57) (.tmp 58),_,_,_,_⟩) (v:=.pointer (some ⟨gb,ob+p,none⟩)) rfl (by kernel_rfl) (by kernel_rfl) (by kernel_rfl) (fun _ _ _ h=>h) (.inl ⟨by rfl,fun w hSw=>by go_simp⟩) (by assumption) ?_;simp only [Act.put,Zb,Zc,Zd];refine Ze (i:=13) (oi:=⟨some 60,.load 5 (.tmp 59),_,_,_,_⟩) (v:=.int .u8 (i0:Int)) rfl (by kernel_rfl) (by kernel_rfl) (by kernel_rfl) (fun _ _ _ h=>h) (.inl ⟨by rfl,fun w hSw=>by have z:=HC0.out w hSw;go_simp⟩) (by assumption) ?_;simp only [Act.put,Zb,Zc,Zd];refine Ze (i:=14) (oi:=⟨some 61,.convert 5 3 (.tmp 60),_,_,_,_⟩) (v:=.int .i64 (i0:Int)) rfl (by kernel_rfl) (by kernel_rfl) (by kernel_rfl) (fun _ _ _ h=>h) (.inl ⟨by rfl,fun w hSw=>by go_simp⟩) (by assumption) ?_;simp only [Act.put,Zb,Zc,Zd];refine Ze (i:=15) (oi:=⟨some 62,.move (.tmp 6),_,_,_,_⟩) (v:=.slice (some ⟨gb,ob,none⟩) 256 xc) rfl (by kernel_rfl) (by kernel_rfl) (by kernel_rfl) (fun _ _ _ h=>h) (.inl ⟨by rfl,fun w hSw=>by go_simp⟩) (by assumption) ?_;simp only [Act.put,Zb,Zc,Zd];refine Ze (i:=16) (oi:=⟨some 63,.move (.tmp 7),_,_,_,_⟩) (v:=.int .i64 (p:Int)) rfl (by kernel_rfl) (by kernel_rfl) (by kernel_rfl) (fun _ _ _ h=>h) (.inl ⟨by rfl,fun w hSw=>by go_simp⟩) (by assumption) ?_;simp only [Act.put,Zb,Zc,Zd];refine Ze (i:=17) (oi:=⟨some 64,.binOp .add 3 (.tmp 63) (.const (.int .i64 2)) 3,_,_,_,_⟩) (v:=.int .i64 (p2:Int)) rfl (by kernel_rfl) (by kernel_rfl) (by kernel_rfl) (fun _ _ _ h=>h) (.inl ⟨by rfl,fun w hSw=>by go_simp⟩) (by assumption) ?_;simp only [Act.put,Zb,Zc,Zd];refine Ze (i:=18) (oi:=⟨some 65,.slice 23 (.tmp 62) (some (.tmp 64)) none none,_,_,_,_⟩) (v:=.slice B65 l65 d65) rfl (by kernel_rfl) (by kernel_rfl) (by kernel_rfl) (fun _ _ _ h=>h) (.inl ⟨by rfl,fun w hSw=>by have z:=HR65.out w;go_simp⟩) (by assumption) ?_;simp only [Act.put,Zb,Zc,Zd];refine Ze (i:=21) (oi:=⟨some 68,.move (.tmp 6),_,_,_,_⟩) (v:=.slice (some ⟨gb,ob,none⟩) 256 xc) rfl (by kernel_rfl) (by kernel_rfl) (by kernel_rfl) (fun _ _ _ h=>h) (.inl ⟨by rfl,fun w hSw=>by go_simp⟩) (by assumption) ?_;simp only [Act.put,Zb,Zc,Zd];refine Ze (i:=22) (oi:=⟨some 69,.move (.tmp 7),_,_,_,_⟩) (v:=.int .i64 (p:Int)) rfl (by kernel_rfl) (by kernel_rfl) (by kernel_rfl) (fun _ _ _ h=>h) (.inl ⟨by rfl,fun w hSw=>by go_simp⟩) (by assumption) ?_;simp only [Act.put,Zb,Zc,Zd];refine Ze (i:=23) (oi:=⟨some 70,.binOp .add 3 (.tmp 69) (.const (.int .i64 1)) 3,_,_,_,_⟩) (v:=.int .i64 (p1:Int)) rfl (by kernel_rfl) (by kernel_rfl) (by kernel_rfl) (fun _ _ _ h=>h) (.inl ⟨by rfl,fun w hSw=>by go_simp⟩) (by assumption) ?_;simp only [Act.put,Zb,Zc,Zd];refine Ze (i:=24) (oi:=⟨some 71,.indexAddr 23 (.tmp 68) (.tmp 70),_,_,_,_⟩) (v:=.pointer (some ⟨gb,ob+p1,none⟩)) rfl (by kernel_rfl) (by kernel_rfl) (by kernel_rfl) (fun _ _ _ h=>h) (.inl ⟨by rfl,fun w hSw=>by go_simp⟩) (by assumption) ?_;simp only [Act.put,Zb,Zc,Zd];refine Ze (i:=25) (oi:=⟨some 72,.load 5 (.tmp 71),_,_,_,_⟩) (v:=.int .u8 (k0:Int)) rfl (by kernel_rfl) (by kernel_rfl) (by kernel_rfl) (fun _ _ _ h=>h) (.inl ⟨by rfl,fun w hSw=>by have z:=HC1.out w hSw;go_simp⟩) (by assumption) ?_;simp only [Act.put,Zb,Zc,Zd];refine Ze (i:=26) (oi:=⟨some 73,.convert 5 3 (.tmp 72),_,_,_,_⟩) (v:=.int .i64 (k0:Int)) rfl (by kernel_rfl) (by kernel_rfl) (by kernel_rfl) (fun _ _ _ h=>h) (.inl ⟨by rfl,fun w hSw=>by go_simp⟩) (by assumption) ?_;simp only [Act.put,Zb,Zc,Zd];refine Ze (i:=27) (oi:=⟨some 74,.move (.tmp 6),_,_,_,_⟩) (v:=.slice (some ⟨gb,ob,none⟩) 256 xc) rfl (by kernel_rfl) (by kernel_rfl) (by kernel_rfl) (fun _ _ _ h=>h) (.inl ⟨by rfl,fun w hSw=>by go_simp⟩) (by assumption) ?_;simp only [Act.put,Zb,Zc,Zd];refine Ze (i:=28) (oi:=⟨some 75,.move (.tmp 7),_,_,_,_⟩) (v:=.int .i64 (p:Int)) rfl (by kernel_rfl) (by kernel_rfl) (by kernel_rfl) (fun _ _ _ h=>h) (.inl ⟨by rfl,fun w hSw=>by go_simp⟩) (by assumption) ?_;simp only [Act.put,Zb,Zc,Zd];refine Ze (i:=29) (oi:=⟨some 76,.binOp .add 3 (.tmp 75) (.const (.int .i64 10)) 3,_,_,_,_⟩) (v:=.int .i64 (p10:Int)) rfl (by kernel_rfl) (by kernel_rfl) (by kernel_rfl) (fun _ _ _ h=>h) (.inl ⟨by rfl,fun w hSw=>by go_simp⟩) (by assumption) ?_;simp only [Act.put,Zb,Zc,Zd];refine Ze (i:=30) (oi:=⟨some 77,.slice 23 (.tmp 74) (some (.tmp 76)) none none,_,_,_,_⟩) (v:=.slice B77 l77 d77) rfl (by kernel_rfl) (by kernel_rfl) (by kernel_rfl) (fun _ _ _ h=>h) (.inl ⟨by rfl,fun w hSw=>by have z:=HR77.out w;go_simp⟩) (by assumption) ?_;simp only [Act.put,Zb,Zc,Zd];refine Zp (rs:=[19]) (by kernel_rfl) (by simp) ?_;refine Zl (o:=⟨some 66,.call ⟨.value (.func 55),#[.tmp 65,.const (.int .i64 8)],_⟩,_,_,_,_⟩) rfl (fun K hK=>?_) Zo;go_simp;go_at_call 55;refine N8.out.mono ?_;rintro e w5 ⟨rfl,rfl⟩;refine hK.out _ _ HBd.out (fun _hs=>?_);clear hK K;refine Ze (i:=20) (oi:=⟨some 67,.build 36 #[(0,.tmp 61),(1,.tmp 66)],_,_,_,_⟩) (v:=.agg #[.int .i64 (i0:Int),.int .u64 (s8:Int)]) rfl (by kernel_rfl) (by kernel_rfl) (by kernel_rfl) (fun _ _ _ h=>h) (.inl ⟨by rfl,fun w hSw=>irun_build w _ 36 _ (by rfl) [(0,.int .i64 (i0:Int)),(1,.int .u64 (s8:Int))] (by simp [Act.eval]) _ (rbuilt_ref _ _)⟩) (by assumption) ?_;simp only [Act.put,Zb,Zc,Zd];refine Zp (rs:=[31]) (by kernel_rfl) (by simp) ?_;refine Zl (o:=⟨some 78,.call ⟨.value (.func 55),#[.tmp 77,.const (.int .i64 4)],_⟩,_,_,_,_⟩) rfl (fun K hK=>?_) Zo;go_simp;go_at_call 55;refine N4.out.mono ?_;rintro e w6 ⟨rfl,rfl⟩;refine hK.out _ _ HBd.out (fun _hs=>?_);clear hK K;refine Ze (i:=32) (oi:=⟨some 79,.convert 34 40 (.tmp 78),_,_,_,_⟩) (v:=.int .u32 (c4:Int)) rfl (by kernel_rfl) (by kernel_rfl) (by kernel_rfl) (fun _ _ _ h=>h) (.inl ⟨by rfl,fun w hSw=>by go_simp⟩) (by assumption) ?_;simp only [Act.put,Zb,Zc,Zd];refine Ze (i:=33) (oi:=⟨some 80,.build 61 #[(0,.tmp 56),(1,.tmp 67),(2,.tmp 73),(3,.tmp 79)],_,_,_,_⟩) (v:=.agg (ecs x9).toArray) rfl (by kernel_rfl) (by kernel_rfl) (by kernel_rfl) (fun _ _ _ h=>h) (.inl ⟨by rfl,fun w hSw=>irun_build w _ 61 _ (by rfl) [(0,.string ⟨(sub b p16 nn).toArray⟩),(1,.agg #[.int .i64 (i0:Int),.int .u64 (s8:Int)]),(2,.int .i64 (k0:Int)),(3,.int .u32 (c4:Int))] (by simp [Act.eval]) _ HBE.out⟩) (by assumption) ?_;simp only [Act.put,Zb,Zc,Zd];refine Zp (rs:=[34]) (by kernel_rfl) (by simp) ?_;refine Zl (o:=⟨some 81,.buildSlice 46 1 #[(0,.tmp 80)],_,_,_,_⟩) rfl (fun K hK=>?_) Zo;refine st_bs1 (by rfl) 46 61 _ rfl Tryz.underlying46 5 (info_ent x9) (by decide) _ zero_ent (ecs x9) rfl rfl ?_;intro g8 w8 hr8 hg8 hb8;have HB8:=Za hb8;have HR8:=Za hr8;have HO8:=Za (own_kept HOd.out hb8);clear hr8 hg8 hb8;refine hK.out _ _ (below_nxt HB8.out HBd.out) (fun _hs=>?_);clear hK K;refine Zp (rs:=[35]) (by kernel_rfl) (by simp) ?_;refine Zl (o:=⟨some 82,.call ⟨.builtin .append,#[.tmp 47,.tmp 81],#[46,46]⟩,_,_,_,_⟩) rfl (fun K hK=>?_) Zo;refine st_join (by rfl) (.tmp 47) (.tmp 81) rfl rec_ent w.heap.size (.slice A4 m c') m (L.flatMap ecs) rfl HO8.out (some ⟨g8,0,none⟩) 1 1 (ecs x9) rfl rfl (.inr ⟨_,rfl,fun j u hu=>by rw [Addr.add_lit];exact HR8.out.all j u hu⟩) (ecs_one x9) (by have:=HMB.out;have:=HKN.out;have:=HN256.out;omega) (by have h1:=HBd.out.size;have h2:=HB8.out.size;omega) ?_;intro v1 w9 ho1 hg1 hat1;have HO9:=Za ho1;have HB9:=Za (p:=Below w.heap.size w w9) ((below_nxt HB8.out HBd.out).grown hg1 (below_nxt HB8.out HBd.out).size (fun z hz=>(HO8.out.lt z hz).1));obtain ⟨A1,c1,rfl⟩:=own_sl ho1;clear ho1 hg1 hat1;refine hK.out _ _ HB9.out (fun _hs=>?_);clear hK K;refine Ze (i:=36) (oi:=⟨some 4,.assign (.tmp 82),_,_,_,_⟩) (v:=.slice A1 (m+1) c1) rfl (by kernel_rfl) (by kernel_rfl) (by kernel_rfl) (fun _ _ _ h=>h) (.inl ⟨by rfl,fun w hSw=>by go_simp⟩) (by assumption) ?_;simp only [Act.put,Zb,Zc,Zd];refine Yg (by kernel_rfl) ?_ _;go_wp2_with fail;go_roundw
                case rel=>
                  exact ⟨k+1,q,m+1,c1,A1,L++[x9],rfl,rfl,by go_num,Za HKK.out,Za HPQ.out.2,Za (by rw [Zf,HML.out];rfl),Za (by have:=HMB.out;omega),Za (by rw [flat_snoc];exact HO9.out),Za (by rw [← HX9.out, ← HPQ.out.1];exact HIN.out.step (by have:=HLN.out;omega) (by rw [HNB.out _];exact HKK.out)),Za ⟨wide_snoc HWD.out.1 HSZ.out.2,nm_snoc HWD.out.2 HSZ.out.1⟩,HB9⟩
                case measure=>have:=HKK.out;simp [intOf];omega
          · have hke:k=N:=by have:=HKN.out;omega
            have hki:¬ (k:Int)<(N:Int):=by omega
            have HFI:=Za (HIN.out.fin (by have:=HLN.out;omega) (by rw [HNB.out _];omega) HBK.out);by_cases h32:32<m
            · have h32i:(32:Int)<(m:Int):=by omega
              have HNOK:=Za (p:=¬ OkB Bs) (okb_32 HFI.out (by rw [HML.out];exact h32));clear hk hke h32;go_wp2;go_ret2;exact HNO.out _ HNOK.out HB.out
            · have h32i:¬ (32:Int)<(m:Int):=by omega
              have H32:=Za (p:=m≤32) (by omega);clear hk hke h32;go_wp2;go_roundw
              case rel=>exact ⟨i+1,m,c',A4,L,by go_num,rfl,Za HI.out,HML,H32,HO,HFI,HWD,HB⟩
              case measure=>have:=HI.out;simp [intOf];omega
      · have hleni:((b.length:Int) !=256)=true:=by rw [bne_iff_ne];omega
        have HNOK:=Za (p:=¬ OkB Bs) (okb_256 HM.out HBK.out hlen);obtain ⟨bl,hbl⟩:∃ bl,b.length=bl:=⟨_,rfl⟩;rw [hbl] at cx hleni;clear hc hx hi hlen hxm hbl;go_wp2;go_ret2;exact HNO.out _ HNOK.out HB0.out
    · have hie : i = n:=by have:=HIL.out;omega
      have hii:¬ (i:Int)<(n:Int):=by omega
      have HALL:=Za (p:=OkB Bs→L0=prs Bs) (fun h=>by
        have h1:=HK0.out h;rwa [Zz (by rw [HBL.out];omega)] at h1)
      have HLV:=Za (rleaves_any A0 m0 c0' L0 (by have:=HM320.out;omega) wo (Lies.own (by decide) ecs_len HO0.out) HML0.out (own_cap HO0.out) (fun e he=>by have:=HW0.out.2 e he;omega) HW0.out.1)
      have HEQ:=Za (p:=∀ (w1:World) (A2:Option Addr) (m2 c2:Nat) (P2:List BV),Below w.heap.size w w1→OwnBs wo.heap.size w1 A2 m2 c2 P2→m2≤32→P2.map (·.l)=leaves L0→Calls Tryz.prog 56 #[.slice A2 m2 c2,.slice A n c] w1 fun e w'=>e=.returned (.bool (decide (leaves L0=Bs)))∧Below w1.heap.size w1 w') (fun w1 A2 m2 c2 P2 hb ho hm hl=>by
        have h1:=rblocks_any A2 A m2 n c2 c P2 P (by omega) ho.2.1 HN.out.2 w1 (Lies.own (by decide) sc_len ho.1) (HL.out.below hb) (fun b hb2=>⟨(ho.2.2 b hb2).hol,by
          have h3:b.l ∈ leaves L0:=by rw [← hl];exact List.mem_map.2 ⟨b,hb2,rfl⟩
          have:=leavesN_len256 _ _ _ h3;omega⟩) (fun b hb2=>⟨(HP.out b hb2).1.below hb,by have:=(HP.out b hb2).2.1;omega⟩)
        rwa [HBS.out,hl] at h1)
      clear hi hie;by_cases hmay:MayL L0
      · have e1 :lvL L0=leaves L0:=by unfold lvL;rw [if_pos hmay]
        have e2:lvE L0=0:=by unfold lvE;rw [if_pos hmay]
        rw [e1,e2] at HLV;by_cases hok:leaves L0=Bs
        · have HOK:=Za (okb_of hmay HW0.out.1 hok);rw [decide_eq_true hok] at HEQ;clear e1 e2 hmay hok
          go_wp2_with (first
            | (go_at_call 17;refine HLV.out.mono ?_;rintro e w4 ⟨A4,m4,c4,P4,rfl,ho,hl,hm,hb⟩;have HB4:=Za (below_nxt hb HB0.out)
               have HO4:=Za (own_kept HO0.out hb);have HEQ4:=Za (HEQ.out w4 A4 m4 c4 P4 HB4.out ho hm hl);clear ho hl hm hb)
            | (go_at_call 56;refine HEQ4.out.mono ?_;rintro e w5 ⟨rfl,hb⟩;have HB5:=Za (below_nxt hb HB4.out)
               have HO5:=Za (own_kept HO4.out hb);clear hb))
          go_ret2;exact HYES.out _ _ _ _ _ HOK.out.1 HOK.out.2.symm HML0.out HO5.out HB5.out
        · have HNOK:=Za (p:=¬ OkB Bs) (fun h=>hok (by rw [HALL.out h];exact h.2));rw [decide_eq_false hok] at HEQ;clear e1 e2 hmay hok
          go_wp2_with (first
            | (go_at_call 17;refine HLV.out.mono ?_;rintro e w4 ⟨A4,m4,c4,P4,rfl,ho,hl,hm,hb⟩;have HB4:=Za (below_nxt hb HB0.out)
               have HEQ4:=Za (HEQ.out w4 A4 m4 c4 P4 HB4.out ho hm hl);clear ho hl hm hb)
            | (go_at_call 56;refine HEQ4.out.mono ?_;rintro e w5 ⟨rfl,hb⟩;have HB5:=Za (below_nxt hb HB4.out)
               clear hb))
          go_ret2;exact HNO.out _ HNOK.out HB5.out
      · have e2 : lvE L0=201:=by unfold lvE;rw [if_neg hmay]
        rw [e2] at HLV;have HNOK:=Za (p:=¬ OkB Bs) (fun h=>hmay (by rw [HALL.out h];exact h.1));clear e2 hmay
        go_wp2_with (go_at_call 17;refine HLV.out.mono ?_;rintro e w4 ⟨A4,m4,c4,P4,rfl,ho,hl,hm,hb⟩;have HB4:=Za (below_nxt hb HB0.out)
                     clear ho hl hm hb)
        go_ret2;exact HNO.out _ HNOK.out HB4.out
/- The laws' first test. Conditions:the library's tables lie there. -/
section
variable {P:Program} {ops:Array Oper} {rest:List Oper} {o:Oper} {a:Act} {w:World} {Q:Exit→Act→World→Prop}
theorem run_bs2 (t e : TypeId) (hu : P.underlying t=some (.slice e)) (k:Nat) (hs:(P.info? e).map (·.size)=some k) (hk:0<k∧k≤1000) (z:Value) (hz:∀ w,(zeroValue e).run P w=.ok z w) (cs ds:List Value) (hcs:cs.length=k) (hds:ds.length=k) (w:World):
    (Instr.buildSlice t 2 #[(0,.agg cs.toArray),(1,.agg ds.toArray)]).run P w=.ok (.slice (some ⟨w.heap.size,0,none⟩) 2 2) (w.alloc (.cells (cs++ds).toArray e)):=by
  have hfill:∀ zs:Array Value,zs.size=2*k→Instr.fill (fun i=>some (i*k,k)) zs [(0,.agg cs.toArray),(1,.agg ds.toArray)]=some (cs++ds).toArray:=fun zs hzs=>by
    have hz2:zs.toList=zs.toList.take k++zs.toList.drop k:=(List.take_append_drop k _).symm;have hl1:(zs.toList.take k).length=k:=by rw [Zu];simp;omega
    have hl2:(zs.toList.drop k).length=k:=by rw [Zs];simp;omega
    have h1:=fill_partD (place:=fun i=>some (i*k,k)) (A:=[]) (old:=zs.toList.take k) (B:=zs.toList.drop k) (vs:=cs) (i:=0) (off:=0) (n:=k) (v:=.agg cs.toArray) (rest:=[(1,.agg ds.toArray)]) (by simp) rfl hcs rfl hl1;have h2:=fill_partD (place:=fun i=>some (i*k,k)) (A:=cs) (old:=zs.toList.drop k) (B:=[]) (vs:=ds) (i:=1) (off:=k) (n:=k) (v:=.agg ds.toArray) (rest:=[]) (by simp) rfl hds hcs hl2;simp only [Zy,Zt] at h1 h2;rw [← hz2,Array.toArray_toList] at h1;rw [h1,h2];rfl
  cases hq:P.info? e with
  | none=>simp [hq] at hs
  | some i=>
    have hi:i.size=k:=by simpa [hq] using hs
    have h1 : ¬ (2 ^ 24 < 2 * k) := by have:(2000:Nat)<2 ^ 24:=by decide
                                       omega
    have h2:¬ 2*k=0:=by omega
    have hf:=hfill ((Array.range (2*k)).map (z.cells[· % z.cells.size]!)) (by simp);have hsz:∀ w:World,(sizeOf e).run P w=.ok k w:=size_ofD hs;clear hq hi;unfold Instr.buildSlice;simp only [Sem.run_bind,run_underlying hu,Zw,hsz,gt_iff_lt,h1,if_false,h2,Sem.run_pure,hz,Sem.run_ite];rw [hf];simp [newRow,go_sem]
theorem step_bs2 (hgd:o.guard=none) (t e:TypeId) (x y:Operand) (ho:o.op=.buildSlice t 2 #[(0,x),(1,y)]) (hu:P.underlying t=some (.slice e)) (k:Nat) (hs:(P.info? e).map (·.size)=some k) (hk:0<k∧k≤1000) (z:Value) (hz:∀ w,(zeroValue e).run P w=.ok z w) (cs ds:List Value) (hcs:cs.length=k) (hds:ds.length=k) (hx:a.eval x=.agg cs.toArray) (hy:a.eval y=.agg ds.toArray)
    (h:∀ g w',Row w' g e (cs++ds)→Hid (g=w.heap.size)→Below w.heap.size w w'→wpList P ops Q rest (a.put o.dst (.slice (some ⟨g,0,none⟩) 2 2)) w'):wpList P ops Q (o::rest) a w:=by
  refine wpList_plain hgd fun K hK=>?_;have hr:=run_bs2 t e hu k hs hk z hz cs ds hcs hds w;unfold Oper.wp execOp;simp only [ho,hx,hy,List.map_toArray,List.map_cons,List.map_nil,Sem.run_bind,hr,Zw];exact hK _ _ (h _ _ (Row.made w e (cs++ds)) (show _=_ from rfl) ((Below.refl _ _).alloc (Zj _) _))
end
def enA:Ent:=⟨⟨#[97]⟩,1,1,1,2⟩
def enB:Ent:=⟨⟨#[98]⟩,2,2,1,1⟩
theorem awk_may:MayL [enA,enB]:=by
  refine ⟨by decide,?_,?_,?_⟩
  · intro e he;simp only [List.mem_cons,List.not_mem_nil,or_false] at he;rcases he with rfl | rfl
    · exact ⟨by decide+kernel,by decide,by decide,by decide,by decide,by decide,by decide⟩
    · exact ⟨by decide+kernel,by decide,by decide,by decide,by decide,by decide,by decide⟩
  · intro q x y hx hy;rcases q with _ | _ | q
    · simp at hx hy;subst hx hy;decide+kernel
    · simp at hy
    · simp at hx
  · intro c;by_cases h1:c=1
    · subst h1;decide
    · by_cases h2:c=2
      · subst h2;decide
      · simp [enA,enB,List.filter_cons];rw [if_neg (by omega),if_neg (by omega)];simp
theorem awk_leaves:leaves [enA,enB]=[leafB [enA,enB]]:=by decide+kernel
theorem awk_first:(leafB [enA,enB])[0]?=some 2:=by decide+kernel
theorem awk_told {L:List Ent} (ho:Ord Ent.ck L) (hs:SameK Ent.ck ([enA,enB].filter (fun e:Ent=>decide (0<e.ck))) L):L=[enB,enA]:=by
  have e1:[enA,enB].filter (fun e:Ent=>decide (0<e.ck))=[enA]++[enB]:=rfl;rw [e1] at hs
  have h2:SameK Ent.ck ([enA]++[enB]) ([enB]++[enA]):=SameK.swap (fun x hx y hy=>by
    simp only [Zr] at hx hy;subst hx hy;decide)
  refine ord_one L [enB,enA] ho ?_ (hs.symm.trans h2)
  exact (Ord.one enB).app (Ord.one enA) (fun x hx y hy=>by
    simp only [Zr] at hx hy;subst hx hy;decide)
theorem awk_fit:fit 25 [enB,enA]=1:=by decide+kernel
theorem built_refD (i s:Int):Tryz.prog.built 36 [(0,.int .i64 i),(1,.int .u64 s)]=some #[.int .i64 i,.int .u64 s]:=by kernel_rfl
theorem built_ent4 (nm:ByteArray) (i s k c:Int):Tryz.prog.built 61 [(0,.string nm),(1,.agg #[.int .i64 i,.int .u64 s]),(2,.int .i64 k),(3,.int .u32 c)]=some #[.string nm,.int .i64 i,.int .u64 s,.int .i64 k,.int .u32 c]:=by kernel_rfl
end Go.Proofs.YtijffkklhgnknaaGreatDoor
