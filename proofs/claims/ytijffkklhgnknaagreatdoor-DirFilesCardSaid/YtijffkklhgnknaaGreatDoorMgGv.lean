/- Package grant: a new super, an inode more, an inode less. No conditions but those named. -/
import Derived.Test.YtijffkklhgnknaaGreatDoorAz
import Derived.Test.YtijffkklhgnknaaGreatDoorMgGs
import Derived.Deep.RegionHeld3
import Derived.Deep.MidRow
import Derived.Test.YtijffkklhgnknaaGreatDoorMgGm
import Derived.Test.YtijffkklhgnknaaGreatDoorMgKd
import Derived.Test.YtijffkklhgnknaaGreatDoorMgMem
import Derived.Test.YtijffkklhgnknaaGreatDoorMgChg
import Derived.Test.YtijffkklhgnknaaGreatDoorMgGq
set_option maxHeartbeats 20000000
set_option linter.unusedVariables false
set_option maxRecDepth 20000
namespace Go.Proofs.YtijffkklhgnknaaGreatDoor
open Go.RowKit
def supN:Sup:=⟨1,fun j=>j==0,fun _=>0,fun _=>false⟩
theorem built_supN:Tryz.prog.built 76 [(0,.int .u64 1)]=some (sup0.setS 1).cs.toArray:=by kernel_rfl
theorem supN_cs:(sup0.setS 1).cs.set 1 (.bool true)=supN.cs:=by kernel_rfl
theorem gnew_any (w:World):Calls Tryz.prog 64 #[] w fun e w'=>e=.returned (.agg supN.cs.toArray)∧Below w.heap.size w w':=by
  have i1:=Za (fun x:Sup=>info_cs x);have hz0:=Za zero_sup;obtain ⟨y,hy⟩:∃ y,sup0.setS 1=y:=⟨_,rfl⟩;have HBU:=Za built_supN;have HCS:=Za supN_cs;rw [hy] at HBU HCS;clear hy;go_enter Tryz.func64,Tryz.ntmps64
  go_wp2_with (first
    | (refine step_alloc rfl 0 rfl 76 rfl _ hz0.out ?_;intro g4 w4 hr4 hg4 hb4 hs4;have R4:=Za hr4
       have HB4:=Za hb4;have Q4:=Za (p:=w.heap.size≤g4) (by rw [hg4.out];exact Zj _);clear hr4 hb4 hg4 hs4)
    | (refine step_build rfl 76 _ rfl [(0,.int .u64 1)] ?hv _ HBU.out ?_;case hv=>simp [Act.eval])
    | (refine step_alloc rfl 1 rfl 76 rfl _ hz0.out ?_;intro g2 w2 hr2 hg2 hb2 hs2;have R2:=Za hr2
       have R42:=Za (R4.out.kept hb2);have HB2:=Za (below_nxt hb2 HB4.out);have N42:=Za (p:=g4<g2) (by rw [hg2.out];exact R4.out.lt);clear hr2 hb2 hg2 hs2)
    | (refine step_store rfl 76 (.tmp 1) (.tmp 2) rfl g2 (by rfl) _ sup0.cs y.cs (by rfl) R2.out (by rw [Sup.cs_len,Sup.cs_len]) (i1.out _) (Sup.cs_one _) ?_;intro w3 hr3 hg3 hs3;have R3:=Za hr3
       have R43:=Za (R42.out.grown hg3 (by intro e;injection e with e;have:=N42.out;omega));have HB3:=Za (below_own HB2.out hg3 (by have:=N42.out;have:=Q4.out;omega));have f1:=R3.out.free 1;have c1:w3.cell? ⟨g2,1,none⟩=some (.bool (y.u 0)):=(R3.out.cell 1).trans (y.c_u (j:=0) (by decide));clear hr3 hg3 hs3)
    | (refine step_load rfl 5 rfl 76 (.tmp 1) rfl g2 rfl supN.cs _ (Row.all (by have h:=R3.out.put 1 (.bool true);rw [HCS.out] at h;exact h)) Yj rfl (i1.out _) ?_)
    | (refine step_store rfl 76 (.tmp 0) (.tmp 5) rfl g4 (by rfl) _ sup0.cs supN.cs (by rfl) (R43.out.far (p:=⟨g2,1,none⟩) (by have:=N42.out;intro e;simp at e;omega) _) (by rw [Sup.cs_len,Sup.cs_len]) (i1.out _) (Sup.cs_one _) ?_;intro w9 hr9 hg9 hs9))
  refine Yd (results_cell_row rfl _ _ g4 _ _ _ _ rfl hr9 Yj rfl (by simpa using i1.out _)) rfl ?_;exact ⟨rfl,below_own (HB3.out.setCell (show w.heap.size≤g2 by have:=N42.out;have:=Q4.out;omega) _) hg9 Q4.out⟩
theorem add_ok (x:Sup) (z:Int) (k s:Nat) (hk:k<64) (h0:x.i (k+1)=0) (hb:∀ j,j<k→x.i (j+1)≠0) (hs:s<256) (hz:(s:Int)<z) (hu:x.u s=false) (hn:∀ j:Nat,j<s→x.u j=true) (w:World):Calls Tryz.prog 29 #[.agg x.cs.toArray,.int .i64 z] w fun e w'=>e=.returned (.tuple #[.agg ((x.setU s true).setI (k+1) s).cs.toArray,.int .i64 ((k+1:Nat):Int),.int .i64 0])∧Below w.heap.size w w':=by
  have i1:=Za (fun x:Sup=>info_cs x);have hz0:=Za zero_sup;have HSP:=Za (fun w=>spare_ok x k hk h0 hb w);have HTK:=Za (fun w=>take_ok x z s hs hz hu hn w);obtain ⟨kk,hkk⟩:∃ kk,k+1=kk:=⟨_,rfl⟩;rw [hkk] at HSP ⊢;obtain ⟨y,hy⟩:∃ y,x.setU s true=y:=⟨_,rfl⟩;rw [hy] at HTK ⊢;have hk65:(kk:Int)<65:=by omega
  have HKN:=Za (p:=kk<65) (by omega);clear hk h0 hb hn hkk hs hz hu hy;go_enter Tryz.func29,Tryz.ntmps29
  go_wp2_with (first
    | (refine step_box rfl 2 rfl 76 (.tmp 0) rfl x.cs rfl ?_;intro g2 w2 hr2 hg2 hb2 hs2;have R2:=Za hr2
       have HB2:=Za hb2;have Q2:=Za (p:=w.heap.size≤g2) (by rw [hg2.out];exact Zj _);clear hr2 hb2 hg2 hs2)
    | (refine step_alloc rfl 4 rfl 76 rfl _ hz0.out ?_;intro g4 w4 hr4 hg4 hb4 hs4;have R4:=Za hr4
       have R24:=Za (R2.out.kept hb4);have HB4:=Za (below_nxt hb4 HB2.out);have N24:=Za (p:=g2<g4) (by rw [hg4.out];exact R2.out.lt);clear hr4 hb4 hg4 hs4)
    | (refine step_load rfl 13 rfl 76 (.tmp 2) rfl g2 rfl x.cs _ R24.out.all Yj rfl (i1.out _) ?_)
    | (go_at_call 65;refine (HSP.out _).mono ?_;rintro e w5 ⟨rfl,hb5⟩;have R25:=Za (R24.out.kept hb5)
       have R45:=Za (R4.out.kept hb5);have HB5:=Za (below_nxt hb5 HB4.out);clear hb5)
    | (refine step_load rfl 21 rfl 76 (.tmp 2) rfl g2 rfl x.cs _ R25.out.all Yj rfl (i1.out _) ?_)
    | (go_at_call 66;refine (HTK.out _).mono ?_;rintro e w6 ⟨rfl,hb6⟩;have R26:=Za (R25.out.kept hb6)
       have R46:=Za (R45.out.kept hb6);have HB6:=Za (below_nxt hb6 HB5.out);clear hb6)
    | (refine step_alloc rfl 9 rfl 76 rfl _ hz0.out ?_;intro g7 w7 hr7 hg7 hb7 hs7;have R7:=Za hr7
       have R47:=Za (R46.out.kept hb7);have HB7:=Za (below_nxt hb7 HB6.out);have N47:=Za (p:=g4<g7) (by rw [hg7.out];exact R46.out.lt);clear hr7 hb7 hg7 hs7)
    | (refine step_store rfl 76 (.tmp 9) (.tmp 24) rfl g7 (by rfl) _ sup0.cs y.cs (by rfl) R7.out (by rw [Sup.cs_len,Sup.cs_len]) (i1.out _) (Sup.cs_one _) ?_;intro w8 hr8 hg8 hs8;have R8:=Za hr8
       have R48:=Za (R47.out.grown hg8 (by intro e;injection e with e;have:=N47.out;omega));have HB8:=Za (below_own HB7.out hg8 (by have:=N47.out;have:=N24.out;have:=Q2.out;omega));have f1:=R8.out.free (257+kk);have c1:w8.cell? ⟨g7,257+kk,none⟩=some (.int .i64 (y.i kk)):=by rw [R8.out.cell,y.c_i HKN.out]
       clear hr8 hg8 hs8)
    | (refine step_load rfl 35 rfl 76 (.tmp 9) rfl g7 rfl (y.setI kk s).cs _ (Row.all (by have h:=R8.out.put (257+kk) (.int .i64 s);rw [y.set_i _ HKN.out] at h;exact h)) Yj rfl (i1.out _) ?_)
    | (refine step_store rfl 76 (.tmp 4) (.tmp 35) rfl g4 (by rfl) _ sup0.cs (y.setI kk s).cs (by rfl) (R48.out.far (p:=⟨g7,257+kk,none⟩) (by have:=N47.out;intro e;simp at e;omega) _) (by rw [Sup.cs_len,Sup.cs_len]) (i1.out _) (Sup.cs_one _) ?_;intro w9 hr9 hg9 hs9))
  refine Yd (results_row_two rfl _ _ g4 _ _ _ _ rfl hr9 Yj rfl (by simpa using i1.out _)) rfl ?_;exact ⟨rfl,below_own (HB8.out.setCell (show w.heap.size≤g7 by have:=N47.out;have:=N24.out;have:=Q2.out;omega) _) hg9 (by have:=N24.out;have:=Q2.out;omega)⟩
/- Package grant:an inode less. No conditions but those named. -/
section
variable {P:Program} {o:Oper} {a:Act} {w:World} {K:Act→World→Prop} {Q:Exit→Act→World→Prop}
end
/- Steps that came in;what keeps a super one that may be. Conditions:those named. -/
theorem lst_drop_take (f:Nat→UInt8) (n i m:Nat) (h:i+m≤n):((lst n f).drop i).take m=lst m (fun j=>f (i+j)):=by
  rw [lst_cut _ i m (by rw [lst_len];exact h)];refine lst_congr fun j hj=>?_;simp [List.getD,lst_get f (show i+j<n by omega)]
/- An inode's cells:what a change of one of them makes of them;when two are the same;its bytes,field by field. No conditions. -/
theorem wrap_64 (n:Int):IntKind.u64.wrap n=n % 18446744073709551616:=by simp [IntKind.wrap,IntKind.bits,IntKind.signed]
theorem wrap_32 (n:Int):IntKind.u32.wrap n=n % 4294967296:=by simp [IntKind.wrap,IntKind.bits,IntKind.signed]
theorem inl_congr {n:Nat} {f g:Nat→Int} (h:∀ j,j<n→f j=g j):inl n f=inl n g:=List.map_congr_left fun j hj=>by rw [h j (List.mem_range.1 hj)]
theorem inl_one (n:Nat) (f:Nat→Int):∀ v ∈ inl n f,v.oneCell'=true:=by
  intro v hv;obtain ⟨_,_,rfl⟩:=List.mem_map.1 hv;rfl
theorem inl_set {n j:Nat} (f:Nat→Int) (v:Int) (h:j<n):(inl n f).set j (.int .i64 v)=inl n (at1 f j v):=by
  apply List.ext_getElem?;intro k;rw [List.getElem?_set,inl_len];by_cases hk:j=k
  · subst hk;rw [if_pos rfl,if_pos h,inl_get _ h,at1_same]
  · rw [if_neg hk];by_cases hn:k<n
    · rw [inl_get _ hn,inl_get _ hn,at1_other _ _ (by omega)]
    · rw [List.getElem?_eq_none (by rw [inl_len];omega),List.getElem?_eq_none (by rw [inl_len];omega)]
def kd (k:Nat):IntKind:=if k=2∨k=3∨k=7∨k=9 then .u32 else if k=6 then .u64 else .i64
def ncs (v:Nat→Int):List Value:=.int .i64 (v 0):: .int .i64 (v 1):: .int .u32 (v 2):: .int .u32 (v 3):: .int .i64 (v 4):: .int .i64 (v 5):: .int .u64 (v 6):: .int .u32 (v 7):: .int .i64 (v 8):: .int .u32 (v 9)::inl 17 fun j=>v (10+j)
theorem ncs_eq (v:Nat→Int):ncs v=(List.range 27).map fun k=>.int (kd k) (v k):=rfl
theorem ncs_len (v:Nat→Int):(ncs v).length=27:=rfl
theorem ncs_get (v:Nat→Int) {k:Nat} (h:k<27):(ncs v)[k]?=some (.int (kd k) (v k)):=by rw [ncs_eq];simp [h]
theorem ncs_slot (v:Nat→Int) {j:Nat} (h:j<17):(ncs v)[10+j]?=some (.int .i64 (v (10+j))):=by
  rw [ncs_get v (by omega)];unfold kd;rw [if_neg (by omega),if_neg (by omega)]
theorem ncs_congr {v u:Nat→Int} (h:∀ k,k<27→v k=u k):ncs v=ncs u:=by
  rw [ncs_eq,ncs_eq];exact List.map_congr_left fun j hj=>by rw [h j (List.mem_range.1 hj)]
theorem ncs_set (v:Nat→Int) {k:Nat} (h:k<27) (z:Int):(ncs v).set k (.int (kd k) z)=ncs (at1 v k z):=by
  apply List.ext_getElem?;intro j;rw [List.getElem?_set,ncs_len];by_cases hk:k=j
  · subst hk;rw [if_pos rfl,if_pos h,ncs_get _ h,at1_same]
  · rw [if_neg hk];by_cases hn:j<27
    · rw [ncs_get _ hn,ncs_get _ hn,at1_other _ _ (by omega)]
    · rw [List.getElem?_eq_none (by rw [ncs_len];omega),List.getElem?_eq_none (by rw [ncs_len];omega)]
theorem ncs_one (v:Nat→Int):∀ x ∈ ncs v,x.oneCell'=true:=by
  intro x hx;rw [ncs_eq] at hx;obtain ⟨_,_,rfl⟩:=List.mem_map.1 hx;rfl
def ino0:Nat→Int:=fun _=>0
theorem info_ino:(Tryz.prog.info? 43).map (·.size)=some 27:=by kernel_rfl
theorem info_112:(Tryz.prog.info? 146).map (·.size)=some 112:=by kernel_rfl
theorem info_ncs (v:Nat→Int):(Tryz.prog.info? 43).map (·.size)=some (ncs v).length:=info_ino
theorem info_inl (f:Nat→Int):(Tryz.prog.info? 146).map (·.size)=some (inl 112 f).length:=by rw [inl_len];exact info_112
theorem zero_ino (w:World):(zeroValue 43).run Tryz.prog w=.ok (.agg (ncs ino0).toArray) w:=by kernel_rfl
theorem built_ino0:Tryz.prog.built 43 []=some (ncs ino0).toArray:=by kernel_rfl
theorem zero_112 (w:World):(zeroValue 146).run Tryz.prog w=.ok (.agg (inl 112 ino0).toArray) w:=by kernel_rfl
theorem built_112:Tryz.prog.built 146 []=some (inl 112 ino0).toArray:=by kernel_rfl
theorem l112_guard:Tryz.prog.eqGuardType Tryz.prog.depth 146=false:=by kernel_rfl
def sz (k:Nat):Nat:=match k with | 0=>1 | 2=>4 | 3=>4 | 5=>4 | 6=>8 | 7=>4 | 9=>4 | _=>2
theorem sz_slot (j:Nat):sz (10+j)=2:=by
  unfold sz
  split <;> first | omega | rfl
def off (s:Nat→Nat):Nat→Nat
  | 0=>0
  | k+1=>off s k+s k
def nb (s:Nat→Nat) (v:Nat→Int):Nat→List UInt8
  | 0=>[]
  | k+1=>nb s v k++leb (v k).toNat (s k)
theorem nb_len (s:Nat→Nat) (v:Nat→Int):∀ k,(nb s v k).length=off s k
  | 0=>rfl
  | k+1=>by rw [nb,Zf,nb_len s v k,leb_len];rfl
theorem nb_split (s:Nat→Nat) (v:Nat→Int) (k:Nat):∀ m,k<m→∃ r,nb s v m=nb s v k++(leb (v k).toNat (s k)++r)
  | m+1,h=>by
    by_cases hk:k=m
    · subst hk;exact ⟨[],by rw [Zy];rfl⟩
    · obtain ⟨r,hr⟩:=nb_split s v k m (by omega);exact ⟨r++leb (v m).toNat (s m),by rw [nb,hr];simp⟩
theorem nb_congr (s:Nat→Nat) {v u:Nat→Int}:∀ k,(∀ j,j<k→v j=u j)→nb s v k=nb s u k
  | 0,_=>rfl
  | k+1,h=>by rw [nb,nb,nb_congr s k (fun j hj=>h j (by omega)),h k (by omega)]
def rdn (s:Nat→Nat) (l:List UInt8) (k:Nat):Nat:=num ((l.drop (off s k)).take (s k))
def rd (s:Nat→Nat) (l:List UInt8) (k:Nat):Int:=(rdn s l k:Int)
theorem rdn_lt (s:Nat→Nat) (l:List UInt8) (k:Nat):rdn s l k<256 ^ s k:=by
  unfold rdn;have h1:=num_lt ((l.drop (off s k)).take (s k));have h2:((l.drop (off s k)).take (s k)).length≤s k:=by simp;omega
  exact Yc h1 (Nat.pow_le_pow_right (by omega) h2)
theorem rd_nb (s:Nat→Nat) (v:Nat→Int) (m k:Nat) (hk:k<m) (t:List UInt8) (h0:0≤v k) (hl:(v k).toNat<256 ^ s k):rd s (nb s v m++t) k=v k:=by
  obtain ⟨r,hr⟩:=nb_split s v k m hk;unfold rd rdn;rw [hr,Zi,List.drop_left' (nb_len s v k),Zi,List.take_left' (leb_len _ _),num_leb,Nat.mod_eq_of_lt hl];omega
def blk (s:Nat→Nat) (v:Nat→Int) (n:Nat):List UInt8:=nb s v n++List.replicate (256 - off s n) 0
theorem blk_len (s:Nat→Nat) (v:Nat→Int) (n:Nat) (h:off s n≤256):(blk s v n).length=256:=by
  unfold blk;rw [Zf,nb_len,List.length_replicate];omega
def s2 (k:Nat):Nat:=2
theorem off_s2:∀ k,off s2 k=2*k
  | 0=>rfl
  | k+1=>by rw [off,off_s2 k];show 2*k+2=_;omega
theorem off_slot:∀ j,off sz (10+j)=35+2*j
  | 0=>rfl
  | j+1=>by
    show off sz (10+j)+sz (10+j)=_;rw [off_slot j,sz_slot];omega
def slotB (f:Nat→Int) (n:Nat):Bool:=(List.range n).all fun j=>decide (0≤f j) && decide (f j≤255)
theorem slotB_iff (f:Nat→Int) (n:Nat):slotB f n=true↔∀ j,j<n→0≤f j∧f j≤255:=by
  unfold slotB;simp only [List.all_eq_true,List.mem_range,Bool.and_eq_true,decide_eq_true_eq]
theorem slotB_succ (f:Nat→Int) (n:Nat):slotB f (n+1)=(slotB f n && (decide (0≤f n) && decide (f n≤255))):=by
  unfold slotB;rw [List.range_succ,List.all_append];simp
def inB (v a b:Int):Bool:=decide (a≤v) && decide (v≤b)
theorem inB_iff (v a b:Int):inB v a b=true↔a≤v∧v≤b:=by unfold inB;simp
def mayB (v:Nat→Int):Bool:=inB (v 0) 1 3 && (inB (v 1) 0 511 && (inB (v 4) 0 32768 && (inB (v 5) 0 32768 && (!(v 6==0) && (inB (v 8) 0 64 && (slotB (fun j=>v (10+j)) 16 && inB (v 26) 0 255))))))
theorem mayB_iff (v:Nat→Int):mayB v=true↔(1≤v 0∧v 0≤3)∧(0≤v 1∧v 1≤511)∧(0≤v 4∧v 4≤32768)∧(0≤v 5∧v 5≤32768)∧v 6≠0∧(0≤v 8∧v 8≤64)∧(∀ j,j<16→0≤v (10+j)∧v (10+j)≤255)∧(0≤v 26∧v 26≤255):=by
  unfold mayB;simp only [Bool.and_eq_true,inB_iff,slotB_iff,Bool.not_eq_true',beq_eq_false_iff_ne,ne_eq]
structure Wf (v:Nat→Int):Prop where
  u:∀ k,kd k=.u32→0≤v k∧v k<4294967296
  s:0≤v 6∧v 6<18446744073709551616
theorem May.fits {v:Nat→Int} (h:mayB v=true) (hw:Wf v) (k:Nat) (hk:k<27):0≤v k∧(v k).toNat<256 ^ sz k:=by
  obtain ⟨h0,h1,h4,h5,h6,h8,hs,h26⟩:=(mayB_iff v).1 h;by_cases h10:k<10
  · rcases (by omega:k=0∨k=1∨k=2∨k=3∨k=4∨k=5∨k=6∨k=7∨k=8∨k=9) with rfl | rfl | rfl | rfl | rfl | rfl | rfl | rfl | rfl | rfl
    · exact ⟨by omega,by show _<256;omega⟩
    · exact ⟨by omega,by show _<65536;omega⟩
    · have:=hw.u 2 rfl;exact ⟨by omega,by show _<4294967296;omega⟩
    · have:=hw.u 3 rfl;exact ⟨by omega,by show _<4294967296;omega⟩
    · exact ⟨by omega,by show _<65536;omega⟩
    · exact ⟨by omega,by show _<4294967296;omega⟩
    · have:=hw.s;exact ⟨by omega,by show _<18446744073709551616;omega⟩
    · have:=hw.u 7 rfl;exact ⟨by omega,by show _<4294967296;omega⟩
    · exact ⟨by omega,by show _<65536;omega⟩
    · have:=hw.u 9 rfl;exact ⟨by omega,by show _<4294967296;omega⟩
  · obtain ⟨j,rfl⟩:∃ j,k=10+j:=⟨k - 10,by omega⟩;rw [sz_slot];by_cases hj:j<16
    · have:=hs j hj;exact ⟨by omega,by show _<65536;omega⟩
    · obtain rfl:j=16:=by omega
      exact (show 0≤v 26∧(v 26).toNat<65536 by omega)
/- Package inode:what may be,a number behind bytes,slots behind bytes,a block made whole. Conditions:those named. -/
def HolN (w:World) (A:Option Addr) (n:Nat) (f:Nat→Int):Prop:=∃ g o,A=some ⟨g,o,none⟩∧∀ j,j<n→w.cell? ⟨g,o+j,none⟩=some (.int .i64 (f j))
theorem HolN.below {w w':World} {A:Option Addr} {n:Nat} {f:Nat→Int} (h:HolN w A n f) (hb:Below w.heap.size w w'):HolN w' A n f:=by
  obtain ⟨g,o,rfl,hc⟩:=h;exact ⟨g,o,rfl,fun j hj=>(hb.cell (p:=⟨g,o+j,none⟩) (Ya w _ (hc j hj))).trans (hc j hj)⟩
theorem hol_ino {w:World} {g:Nat} {v:Nat→Int} (h:Row w g 43 (ncs v)):HolN w (some ⟨g,10,none⟩) 16 fun j=>v (10+j):=⟨g,10,rfl,fun j hj=>by rw [h.cell,ncs_slot v (by omega)]⟩
theorem hol_112 {w:World} {g:Nat} {f:Nat→Int} (h:Row w g 146 (inl 112 f)):HolN w (some ⟨g,0,none⟩) 112 f:=⟨g,0,rfl,fun j hj=>by rw [h.cell,Nat.zero_add,inl_get f hj]⟩
theorem hol_single {w:World} {g:Nat} {z:Int} (h:w.cell? ⟨g,0,none⟩=some (.int .i64 z)):HolN w (some ⟨g,0,none⟩) 1 fun _=>z:=⟨g,0,rfl,fun j hj=>by
  obtain rfl:j=0:=by omega
  exact h⟩
theorem own_low {w:World} {b b':Nat} {e:TypeId} {size n:Nat} {v:Value} {xs:List Value} (h:w.ownsRow b e size v n xs) (hb:b'≤b):w.ownsRow b' e size v n xs:=by
  refine ⟨h.1,?_⟩;rcases h.2 with h0 | ⟨g,cap,cur,h1,h2,h3⟩
  · exact .inl h0
  · exact .inr ⟨g,cap,cur,h1,Nat.le_trans hb h2,h3⟩
theorem within_any (v a b:Int) (w:World):Calls Tryz.prog 105 #[.int .i64 v,.int .i64 a,.int .i64 b] w fun e w'=>e=.returned (.bool (inB v a b))∧w=w':=by
  unfold inB;by_cases h0:a≤v
  · rw [decide_eq_true h0,Bool.true_and];go_enter Tryz.func105,Tryz.ntmps105;go_wp2;go_ret;exact ⟨rfl,rfl⟩
  · rw [decide_eq_false h0,Bool.false_and];go_enter Tryz.func105,Tryz.ntmps105;go_wp2;go_ret;exact ⟨rfl,rfl⟩
theorem areslots_any (A:Option Addr) (n c:Nat) (f:Nat→Int) (hn:n≤112) (w:World) (hA:HolN w A n f):Calls Tryz.prog 106 #[.slice A n c] w fun e w'=>e=.returned (.bool (slotB f n))∧w=w':=by
  have HA:=Za hA;have HN:=Za hn;clear hA hn;go_enter Tryz.func106,Tryz.ntmps106;go_wp2;go_loop [7] (fun y=>∃ k:Nat,k≤n∧y=.int .i64 (k:Int)∧Hid (slotB f k=true)) (fun y=>112 - (intOf y).toNat)
  case atStart=>exact ⟨0,by omega,rfl,Za rfl⟩
  case round=>
    obtain ⟨k,hk,rfl,HS⟩:=hrel;have hkw:IntKind.i64.wrap ((k:Int)+1)=(k:Int)+1:=by rw [Zg];have:=HN.out;omega
    by_cases hkn:k<n
    · have hki:(k:Int)<(n:Int):=by omega
      obtain ⟨g,o,rfl,hc⟩:=HA.out;have ck:=hc k hkn;obtain ⟨z,hz⟩:∃ z,f k=z:=⟨_,rfl⟩;rw [hz] at ck;have HK:=Za hkn;cases hb:inB z 0 255
      · have HF:=Za (p:=slotB f n=false) (by
          cases h:slotB f n
          · rfl
          · have h1:=(slotB_iff f n).1 h k hkn;rw [hz] at h1;rw [(inB_iff z 0 255).2 h1] at hb;cases hb)
        have HB:=Za hb;clear hc hk hkn hz hb;go_wp2_with (go_at_call 105;refine (within_any _ _ _ _).mono ?_;rintro e w' ⟨rfl,rfl⟩;rw [HB.out]);go_ret;exact ⟨by rw [HF.out];rfl,rfl⟩
      · have HS2:=Za (p:=slotB f (k+1)=true) (by rw [slotB_succ,HS.out,hz];exact hb);have HB:=Za hb;clear hc hk hkn hz hb;go_wp2_with (go_at_call 105;refine (within_any _ _ _ _).mono ?_;rintro e w' ⟨rfl,rfl⟩;rw [HB.out]);go_round
        case rel=>exact ⟨k+1,HK.out,by go_num,HS2⟩
        case measure=>have:=HK.out;have:=HN.out;simp [intOf];omega
    · obtain rfl:k=n:=by omega
      have hki:¬ (k:Int)<(k:Int):=by omega
      clear hk hkn;go_wp2;go_ret;exact ⟨by rw [HS.out];rfl,rfl⟩
def NewBi (w:World) (n:Nat) (l:List UInt8) (e:Ending) (w':World):Prop:=∃ A c,e=.returned (.slice A n c)∧Hid (w'.ownsRow w.heap.size 5 1 (.slice A n c) n (bc l))∧Hid (Below w.heap.size w w')
theorem number_at (A:Option Addr) (c n:Nat) (l:List UInt8) (hn:l.length=n) (k m:Nat) (x:Nat) (hk:k=1∨k=2∨k=4∨k=8) (hm:n+k=m) (hx:x<256 ^ k) (hl:n≤256) (w:World) (hA:Hol w A l):
    Calls Tryz.prog 68 #[.slice A n c,.int .i64 (k:Int),.int .u64 (x:Int)] w (NewBi w m (l++leb x k)):=by
  have hx64:x<18446744073709551616:=by
    rcases hk with rfl | rfl | rfl | rfl
    · have e:(256:Nat) ^ 1=256:=rfl;omega
    · have e:(256:Nat) ^ 2=65536:=rfl;omega
    · have e:(256:Nat) ^ 4=4294967296:=rfl;omega
    · exact hx
  subst hn;have hp:=put_any A c l (k:Int) x w hA hx64 (by omega)
  have hr:putR l (k:Int) x=(l++leb x k,0):=by
    unfold putR;rw [if_neg (by rcases hk with rfl | rfl | rfl | rfl <;> decide),if_neg (by rw [Yf];intro h;exact h (Nat.div_eq_of_lt hx)),Yf]
  rw [hr] at hp;have HP:=Za hp;have hlen:(l++leb x k).length=m:=by rw [Zf,leb_len];exact hm
  clear hp hr hx hx64 hk;obtain ⟨n,hn⟩:∃ n,l.length=n:=⟨_,rfl⟩;rw [hn] at HP ⊢;obtain ⟨L,hL⟩:∃ L,l++leb x k=L:=⟨_,rfl⟩;rw [hL] at HP hlen ⊢;clear hn hm hl hA hL;go_enter Tryz.func68,Tryz.ntmps68
  go_wp2_with (go_at_call 107;refine HP.out.mono ?_;rintro e w1 ⟨v,rfl,hown,hb⟩;replace hown:w1.ownsRow w.heap.size 5 1 v L.length (bc L):=hown
               rw [hlen] at hown;obtain ⟨A1,c1,rfl⟩:=own_sl hown;have HO:=Za hown;have HB:=Za hb;clear hown hb)
  go_ret;exact ⟨A1,c1,rfl,HO,HB⟩
theorem nb_snoc (s:Nat→Nat) (v:Nat→Int) (k:Nat):nb s v (k+1)=nb s v k++leb (v k).toNat (s k):=rfl
theorem putslots_any (B:Nat) (A:Option Addr) (n c:Nat) (l:List UInt8) (S:Option Addr) (m d:Nat) (f:Nat→Int) (p:Nat) (hp:n+2*m=p) (hn:l.length=n) (hl:p≤256) (hf:∀ j,j<m→0≤f j∧f j≤255) (w:World) (hB:B≤w.heap.size)
    (hown:w.ownsRow B 5 1 (.slice A n c) n (bc l)) (hS:HolN w S m f):
    Calls Tryz.prog 69 #[.slice A n c,.slice S m d] w fun e w'=>∃ A' c',e=.returned (.slice A' p c')∧Hid (w'.ownsRow B 5 1 (.slice A' p c') p (bc (l++nb s2 f m)))∧Hid (Below w.heap.size w w'):=by
  have HS:=Za hS;have HO:=Za hown;have HB:=Za hB;have HN:=Za hn;have HP:=Za hp;have HL:=Za hl;have HF:=Za hf;clear hS hown hB hn hp hl hf;go_enter Tryz.func69,Tryz.ntmps69;go_wp2;go_loopw [0,8] (fun x y wr=>∃ k A' q c',Hid (k≤m)∧y=.int .i64 (k:Int)∧x=.slice A' q c'∧Hid (n+2*k=q)∧Hid (wr.ownsRow B 5 1 (.slice A' q c') q (bc (l++nb s2 f k)))∧Hid (Below w.heap.size w wr)) (fun _ y _=>256 - (intOf y).toNat)
  case atStart=>exact ⟨0,A,n,c,Za (by omega),rfl,rfl,Za (by omega),by rw [nb,Zy];exact HO,Za (Below.refl _ _)⟩
  case round=>
    clear HO;obtain ⟨k,A',q,c',HK,rfl,rfl,HQ,HO,HBW⟩:=hrel;have hkw:IntKind.i64.wrap ((k:Int)+1)=(k:Int)+1:=by rw [Zg];have:=HK.out;have:=HP.out;have:=HL.out;omega
    by_cases hkm:k<m
    · have hki : (k :Int)<(m:Int):=by omega
      have hk0:(0:Int)≤(k:Int):=by omega
      obtain ⟨gs,os,rfl,hc⟩:=HS.out.below HBW.out;have ck:=hc k hkm;obtain ⟨x,hx⟩:∃ x:Nat,f k=(x:Int):=⟨(f k).toNat,by have:=HF.out k hkm;omega⟩;rw [hx] at ck;have hx255:x<65536:=by have:=HF.out k hkm;omega
      have hxw:IntKind.u64.wrap (x:Int)=(x:Int):=by rw [wrap_64];omega
      have hxw':(x:Int) % 18446744073709551616=(x:Int):=by omega
      obtain ⟨q2,hq2⟩:∃ q2,q+2=q2:=⟨_,rfl⟩;have HN2:=Za (number_at A' c' q (l++nb s2 f k) (by rw [Zf,nb_len,off_s2,HN.out];exact HQ.out) 2 q2 x (by omega) hq2 (by have e:(256:Nat) ^ 2=65536:=rfl;omega) (by have:=HP.out;have:=HL.out;have:=HQ.out;omega) wr (Hol.own HO.out));have HQ2:=Za (p:=n+2*(k+1)=q2) (by have:=HQ.out;omega);have HE:=Za (p:=l++nb s2 f k++leb x 2=l++nb s2 f (k+1)) (by rw [nb_snoc,hx,Yf,Zi];rfl);have HKM:=Za hkm;clear hkm hc hx hx255 hq2
      go_wp2_with (go_at_call 68;refine HN2.out.mono ?_;rintro e w2 ⟨A2,c2,rfl,HO2,HB2⟩;have HO3:=Za (p:=w2.ownsRow B 5 1 (.slice A2 q2 c2) q2 (bc (l++nb s2 f (k+1)))) (by rw [← HE.out];exact own_low HO2.out (Nat.le_trans HB.out HBW.out.size))
                   have HBW2:=Za (below_nxt HB2.out HBW.out);clear HO2 HB2)
      go_roundw
      case rel=>exact ⟨k+1,A2,q2,c2,Za HKM.out,by go_num,rfl,HQ2,HO3,HBW2⟩
      case measure=>have:=HKM.out;have:=HP.out;have:=HL.out;simp [intOf];omega
    · obtain rfl:k=m:=by have:=HK.out;omega
      obtain rfl:q=p:=by have:=HQ.out;have:=HP.out;omega
      have hki:¬ (k:Int)<(k:Int):=by omega
      clear hkm;go_wp2;go_ret;exact ⟨A',c',rfl,HO,HBW⟩
theorem int_tab:Tryz.prog.underlying 3=some (.int .i64):=Tryz.underlying3
theorem whole_any (B:Nat) (A:Option Addr) (n c:Nat) (l:List UInt8) (hn0:0<n) (hn:n<256) (w:World) (hB:B≤w.heap.size) (hown:w.ownsRow B 5 1 (.slice A n c) n (bc l)):
    Calls Tryz.prog 70 #[.slice A n c] w fun e w'=>∃ A' c',e=.returned (.slice A' 256 c')∧Hid (w'.ownsRow B 5 1 (.slice A' 256 c') 256 (bc (l++List.replicate (256 - n) 0)))∧Hid (Below B w w'):=by
  obtain ⟨i,U⟩:=u8_tab;obtain ⟨m,hm⟩:∃ m,256 - n=m:=⟨_,rfl⟩
  obtain ⟨g,rfl⟩:∃ g,A=some ⟨g,0,none⟩:=by
    rcases hown.2 with ⟨h,_⟩ | ⟨g,cap,cur,h,_⟩
    · injection h with _ h _
      omega
    · injection h with h _ _
      exact ⟨g,h⟩
  have hmw:IntKind.i64.wrap (256 - (n:Int))=(m:Int):=by rw [Zg];omega
  have HO:=Za hown;have HB:=Za hB;have HM:=Za (p:=0<m∧n+m=256) (by omega);rw [hm];clear hown hB hn0 hn hm;go_enter Tryz.func70,Tryz.ntmps70
  go_wp2_with (at_builtin
               refine wpList_zeros rfl _ _ _ _ rfl 5 i U int_tab B g n m c (bc l) rfl rfl HO.out HM.out.1 (by have:=HM.out;omega) HB.out ?_;intro g' c' w' ho' hg';rw [HM.out.2] at ho';rw [HM.out.2];have HO2:=Za (p:=w'.ownsRow B 5 1 (.slice (some ⟨g',0,none⟩) 256 c') 256 (bc (l++List.replicate m 0))) (by rw [bc_app,show bc (List.replicate m 0)=List.replicate m (Value.int .u8 0) by simp [bc]];exact ho');have HB2:=Za (p:=Below B w w') ((Below.refl B w).grown hg' HB.out (fun q hq=>(HO.out.lt q hq).1));clear ho' hg')
  go_ret;exact ⟨some ⟨g',0,none⟩,c',rfl,HO2,HB2⟩
/- Package inode:whether an inode may be;an inode's block,and a list's. Conditions:those named. -/
theorem eight (b0 b1 b2 b3 b4 b5 b6 b7:Bool):(b0=false)∨(b0=true∧b1=false)∨(b0=true∧b1=true∧b2=false)∨(b0=true∧b1=true∧b2=true∧b3=false)∨(b0=true∧b1=true∧b2=true∧b3=true∧b4=true)∨(b0=true∧b1=true∧b2=true∧b3=true∧b4=false∧b5=false)∨(b0=true∧b1=true∧b2=true∧b3=true∧b4=false∧b5=true∧b6=false)∨(b0=true∧b1=true∧b2=true∧b3=true∧b4=false∧b5=true∧b6=true∧b7=false)∨(b0=true∧b1=true∧b2=true∧b3=true∧b4=false∧b5=true∧b6=true∧b7=true):=by
  cases b0
  case false=>exact .inl rfl
  cases b1
  case false=>exact .inr (.inl ⟨rfl,rfl⟩)
  cases b2
  case false=>exact .inr (.inr (.inl ⟨rfl,rfl,rfl⟩))
  cases b3
  case false=>exact .inr (.inr (.inr (.inl ⟨rfl,rfl,rfl,rfl⟩)))
  cases b4
  case true=>exact .inr (.inr (.inr (.inr (.inl ⟨rfl,rfl,rfl,rfl,rfl⟩))))
  cases b5
  case false=>exact .inr (.inr (.inr (.inr (.inr (.inl ⟨rfl,rfl,rfl,rfl,rfl,rfl⟩)))))
  cases b6
  case false=>exact .inr (.inr (.inr (.inr (.inr (.inr (.inl ⟨rfl,rfl,rfl,rfl,rfl,rfl,rfl⟩))))))
  cases b7
  case false=>exact .inr (.inr (.inr (.inr (.inr (.inr (.inr (.inl ⟨rfl,rfl,rfl,rfl,rfl,rfl,rfl,rfl⟩)))))))
  exact .inr (.inr (.inr (.inr (.inr (.inr (.inr (.inr (⟨rfl,rfl,rfl,rfl,rfl,rfl,rfl,rfl⟩))))))))
theorem imaybe_any (v:Nat→Int) (w:World):Calls Tryz.prog 67 #[.agg (ncs v).toArray] w fun e w'=>e=.returned (.bool (mayB v))∧Below w.heap.size w w':=by
  unfold mayB;have HSL:=Za (fun (w:World) (g:Nat) (h:Row w g 43 (ncs v))=>areslots_any _ 16 16 _ (by omega) w (hol_ino h));have HS1:=Za (fun (w:World) (g:Nat) (h:w.cell? ⟨g,0,none⟩=some (.int .i64 (v 26)))=>areslots_any _ 1 1 _ (by omega) w (hol_single h))
  have h26:slotB (fun _=>v 26) 1=inB (v 26) 0 255:=by
    rw [slotB_succ];exact Bool.true_and _
  rw [h26] at HS1;have HV:=Za (p:=∀ (w:World) (g:Nat),Row w g 43 (ncs v)→w.cell? ⟨g,26,none⟩=some (.int .i64 (v 26))) (fun w g h=>by rw [h.cell];rfl);clear h26;generalize hb7:inB (v 26) 0 255=b7 at*;generalize hb6:slotB (fun j=>v (10+j)) 16=b6 at*;generalize hb5:inB (v 8) 0 64=b5;generalize hb4:(v 6==0)=b4;have h6:(v 6 !=0)= !b4:=by rw [← hb4];rfl
  clear hb4;generalize hb3:inB (v 5) 0 32768=b3;generalize hb2:inB (v 4) 0 32768=b2;generalize hb1:inB (v 1) 0 511=b1;generalize hb0:inB (v 0) 1 3=b0;have W0:=Za hb0;have W1:=Za hb1;have W2:=Za hb2;have W3:=Za hb3;have W5:=Za hb5;clear hb0 hb1 hb2 hb3 hb5 hb6 hb7;rcases eight b0 b1 b2 b3 b4 b5 b6 b7 with ⟨rfl⟩ | ⟨rfl,rfl⟩ | ⟨rfl,rfl,rfl⟩ | ⟨rfl,rfl,rfl,rfl⟩ | ⟨rfl,rfl,rfl,rfl,rfl⟩ | ⟨rfl,rfl,rfl,rfl,rfl,rfl⟩ | ⟨rfl,rfl,rfl,rfl,rfl,rfl,rfl⟩ | ⟨rfl,rfl,rfl,rfl,rfl,rfl,rfl,rfl⟩ | ⟨rfl,rfl,rfl,rfl,rfl,rfl,rfl,rfl⟩
  all_goals
    try simp only [Bool.not_false,Bool.not_true] at h6
    go_enter Tryz.func67,Tryz.ntmps67
    go_wp2_with (first
      | (refine step_box rfl 1 rfl 43 (.tmp 0) rfl (ncs v) rfl ?_;intro g2 w2 hr2 hg2 hb2 hs2;have R2:=Za hr2
         have HB2:=Za hb2;have c0:w2.cell? ⟨g2,0,none⟩=some (.int .i64 (v 0)):=by rw [R2.out.cell];rfl
         have c1:w2.cell? ⟨g2,1,none⟩=some (.int .i64 (v 1)):=by rw [R2.out.cell];rfl
         have c4:w2.cell? ⟨g2,4,none⟩=some (.int .i64 (v 4)):=by rw [R2.out.cell];rfl
         have c5:w2.cell? ⟨g2,5,none⟩=some (.int .i64 (v 5)):=by rw [R2.out.cell];rfl
         have c6:w2.cell? ⟨g2,6,none⟩=some (.int .u64 (v 6)):=by rw [R2.out.cell];rfl
         have c8:w2.cell? ⟨g2,8,none⟩=some (.int .i64 (v 8)):=by rw [R2.out.cell];rfl
         have c26:=HV.out w2 g2 R2.out;generalize v 0=z0 at*;generalize v 1=z1 at*;generalize v 4=z4 at*;generalize v 5=z5 at*;generalize v 6=z6 at*;generalize v 8=z8 at*;clear hr2 hb2 hg2 hs2)
      | (go_at_call 105;refine (within_any _ _ _ _).mono ?_;rintro e w' ⟨rfl,rfl⟩;first | rw [W0.out] | rw [W1.out] | rw [W2.out] | rw [W3.out] | rw [W5.out])
      | (go_at_call_of 106 (Value.slice (some ⟨g2,10,none⟩) 16 16);refine (HSL.out _ _ R2.out).mono ?_;rintro e w' ⟨rfl,rfl⟩)
      | (go_at_call 106;refine (HS1.out _ _ (by simp)).mono ?_;rintro e w' ⟨rfl,rfl⟩))
    go_ret
    first
      | exact ⟨rfl,HB2.out⟩
      | exact ⟨rfl,HB2.out.alloc HB2.out.size _⟩
/- Package inode:an inode's block. Conditions:those named. -/
structure PK (W w:World) (g:Nat) (v:Nat→Int) (A:Option Addr) (c n k:Nat):Prop where
  row:Row w g 43 (ncs v)
  own:w.ownsRow W.heap.size 5 1 (.slice A n c) n (bc (nb sz v k))
  b:Below W.heap.size W w
theorem num_pk {W w:World} {g:Nat} {v:Nat→Int} {A:Option Addr} {c n k:Nat} (m s:Nat) (z:Int) (hz:v k=z) (hs:sz k=s) (hn:off sz k=n) (hm:n+s=m) (hk:s=1∨s=2∨s=4∨s=8) (hf:0≤v k∧(v k).toNat<256 ^ sz k) (hl:n≤256) (h:PK W w g v A c n k):
    Calls Tryz.prog 68 #[.slice A n c,.int .i64 (s:Int),.int .u64 z] w fun e w'=>∃ A' c',e=.returned (.slice A' m c')∧Hid (PK W w' g v A' c' m (k+1)):=by
  subst hs;have hlen:(nb sz v k).length=n:=by rw [nb_len];exact hn
  have h1:=number_at A c n (nb sz v k) hlen (sz k) m (v k).toNat hk hm hf.2 hl w (Hol.own h.own);rw [show (((v k).toNat:Nat):Int)=z by rw [← hz];omega] at h1;refine h1.mono ?_;rintro e w' ⟨A',c',rfl,ho,hb⟩;exact ⟨A',c',rfl,Za ⟨h.row.kept hb.out,own_low ho.out h.b.size,below_nxt hb.out h.b⟩⟩
theorem nb_slots (v:Nat→Int) (k:Nat):∀ j,nb sz v (10+k)++nb s2 (fun j=>v (10+k+j)) j=nb sz v (10+k+j)
  | 0=>Zy _
  | j+1=>by
    rw [nb, ← Zi,nb_slots v k j];show _=nb sz v (10+k+j)++leb (v (10+k+j)).toNat (sz (10+k+j));rw [Nat.add_assoc 10 k j,sz_slot];rfl
theorem pack_not (v:Nat→Int) (h:mayB v=false) (w:World):Calls Tryz.prog 30 #[.agg (ncs v).toArray] w fun e w'=>e=.returned (.tuple #[.slice none 0 0,.int .i64 201])∧Below w.heap.size w w':=by
  have i1:=Za (fun v=>info_ncs v);have HM:=Za (fun w=>imaybe_any v w);rw [h] at HM;clear h;go_enter Tryz.func30,Tryz.ntmps30
  go_wp2_with (first
    | (refine step_box rfl 1 rfl 43 (.tmp 0) rfl (ncs v) rfl ?_;intro g2 w2 hr2 hg2 hb2 hs2;have R2:=Za hr2
       have HB2:=Za hb2;clear hr2 hb2 hg2 hs2)
    | (refine step_load rfl 5 rfl 43 (.tmp 1) rfl g2 rfl (ncs v) _ R2.out.all Yh rfl (i1.out _) ?_)
    | (go_at_call 67;refine (HM.out _).mono ?_;rintro e w3 ⟨rfl,hb3⟩;have HB3:=Za (below_nxt hb3 HB2.out)
       clear hb3))
  go_ret2;exact ⟨rfl,HB3.out⟩
theorem pack_ok (v:Nat→Int) (h:mayB v=true) (hw:Wf v) (w:World):Calls Tryz.prog 30 #[.agg (ncs v).toArray] w fun e w'=>∃ A c,e=.returned (.tuple #[.slice A 256 c,.int .i64 0])∧Hid (w'.ownsRow w.heap.size 5 1 (.slice A 256 c) 256 (bc (blk sz v 27)))∧Hid (Below w.heap.size w w'):=by
  have i1:=Za (fun v=>info_ncs v);have HM:=Za (fun w=>imaybe_any v w);rw [h] at HM;have HF:=Za (May.fits h hw);have HMY:=Za ((mayB_iff v).1 h);clear h hw;obtain ⟨z0,hz0⟩:∃ z,v 0=z:=⟨_,rfl⟩;have bz0:0≤z0∧z0<4294967296:=by have h1:=HF.out 0 (by omega);rw [hz0] at h1;have h2:z0.toNat<256:=h1.2;omega
  have wz0:IntKind.u64.wrap z0=z0:=by rw [wrap_64];omega
  have mz0:z0 % 18446744073709551616=z0:=by omega
  have HZ0:=Za hz0;obtain ⟨z1,hz1⟩:∃ z,v 1=z:=⟨_,rfl⟩;have bz1:0≤z1∧z1<4294967296:=by have h1:=HF.out 1 (by omega);rw [hz1] at h1;have h2:z1.toNat<65536:=h1.2;omega
  have wz1:IntKind.u64.wrap z1=z1:=by rw [wrap_64];omega
  have mz1:z1 % 18446744073709551616=z1:=by omega
  have HZ1:=Za hz1;obtain ⟨z2,hz2⟩:∃ z,v 2=z:=⟨_,rfl⟩;have bz2:0≤z2∧z2<4294967296:=by have h1:=HF.out 2 (by omega);rw [hz2] at h1;have h2:z2.toNat<4294967296:=h1.2;omega
  have wz2:IntKind.u64.wrap z2=z2:=by rw [wrap_64];omega
  have mz2:z2 % 18446744073709551616=z2:=by omega
  have HZ2:=Za hz2;obtain ⟨z3,hz3⟩:∃ z,v 3=z:=⟨_,rfl⟩;have bz3:0≤z3∧z3<4294967296:=by have h1:=HF.out 3 (by omega);rw [hz3] at h1;have h2:z3.toNat<4294967296:=h1.2;omega
  have wz3:IntKind.u64.wrap z3=z3:=by rw [wrap_64];omega
  have mz3:z3 % 18446744073709551616=z3:=by omega
  have HZ3:=Za hz3;obtain ⟨z4,hz4⟩:∃ z,v 4=z:=⟨_,rfl⟩;have bz4:0≤z4∧z4<4294967296:=by have h1:=HF.out 4 (by omega);rw [hz4] at h1;have h2:z4.toNat<65536:=h1.2;omega
  have wz4:IntKind.u64.wrap z4=z4:=by rw [wrap_64];omega
  have mz4:z4 % 18446744073709551616=z4:=by omega
  have HZ4:=Za hz4;obtain ⟨z5,hz5⟩:∃ z,v 5=z:=⟨_,rfl⟩;have bz5:0≤z5∧z5<4294967296:=by have h1:=HF.out 5 (by omega);rw [hz5] at h1;have h2:z5.toNat<4294967296:=h1.2;omega
  have wz5:IntKind.u64.wrap z5=z5:=by rw [wrap_64];omega
  have mz5:z5 % 18446744073709551616=z5:=by omega
  have HZ5:=Za hz5;obtain ⟨z6,hz6⟩:∃ z,v 6=z:=⟨_,rfl⟩;have HZ6:=Za hz6;obtain ⟨z7,hz7⟩:∃ z,v 7=z:=⟨_,rfl⟩;have bz7:0≤z7∧z7<4294967296:=by have h1:=HF.out 7 (by omega);rw [hz7] at h1;have h2:z7.toNat<4294967296:=h1.2;omega
  have wz7:IntKind.u64.wrap z7=z7:=by rw [wrap_64];omega
  have mz7:z7 % 18446744073709551616=z7:=by omega
  have HZ7:=Za hz7;obtain ⟨z8,hz8⟩:∃ z,v 8=z:=⟨_,rfl⟩;have bz8:0≤z8∧z8<4294967296:=by have h1:=HF.out 8 (by omega);rw [hz8] at h1;have h2:z8.toNat<65536:=h1.2;omega
  have wz8:IntKind.u64.wrap z8=z8:=by rw [wrap_64];omega
  have mz8:z8 % 18446744073709551616=z8:=by omega
  have HZ8:=Za hz8;obtain ⟨z9,hz9⟩:∃ z,v 9=z:=⟨_,rfl⟩;have bz9:0≤z9∧z9<4294967296:=by have h1:=HF.out 9 (by omega);rw [hz9] at h1;have h2:z9.toNat<4294967296:=h1.2;omega
  have wz9:IntKind.u64.wrap z9=z9:=by rw [wrap_64];omega
  have mz9:z9 % 18446744073709551616=z9:=by omega
  have HZ9:=Za hz9;clear hz0 hz1 hz2 hz3 hz4 hz5 hz6 hz7 hz8 hz9 bz0 bz1 bz2 bz3 bz4 bz5 bz7 bz8 bz9;go_enter Tryz.func30,Tryz.ntmps30
  go_wp2_with (first
    | (refine step_box rfl 1 rfl 43 (.tmp 0) rfl (ncs v) rfl ?_;intro g2 w2 hr2 hg2 hb2 hs2;have R2:=Za hr2
       have HB2:=Za hb2;clear hr2 hb2 hg2 hs2)
    | (refine step_load rfl 5 rfl 43 (.tmp 1) rfl g2 rfl (ncs v) _ R2.out.all Yh rfl (i1.out _) ?_)
    | (go_at_call 67;refine (HM.out _).mono ?_;rintro e w3 ⟨rfl,hb3⟩;have P0:=Za (p:=PK w w3 g2 v none 0 0 0) ⟨R2.out.kept hb3,Ye _ _ _ _,below_nxt hb3 HB2.out⟩
       have c0:w3.cell? ⟨g2,0,none⟩=some (.int .i64 z0):=by rw [P0.out.row.cell, ← HZ0.out];rfl
       clear hb3 R2 HB2 HM))
  refine (num_pk (n:=0) 1 1 z0 HZ0.out rfl rfl rfl (.inl rfl) (HF.out 0 (by omega)) (by omega) P0.out).mono ?_;rintro e u0 ⟨A1,c1',rfl,P1⟩;have c1:u0.cell? ⟨g2,1,none⟩=some (.int .i64 z1):=by rw [P1.out.row.cell, ← HZ1.out];rfl
  clear c0 P0;go_wp2_with fail;refine (num_pk (n:=1) 3 2 z1 HZ1.out rfl rfl rfl (.inr (.inl rfl)) (HF.out 1 (by omega)) (by omega) P1.out).mono ?_;rintro e u1 ⟨A2,c2',rfl,P2⟩;have c2:u1.cell? ⟨g2,2,none⟩=some (.int .u32 z2):=by rw [P2.out.row.cell, ← HZ2.out];rfl
  clear c1 P1;go_wp2_with fail;refine (num_pk (n:=3) 7 4 z2 HZ2.out rfl rfl rfl (.inr (.inr (.inl rfl))) (HF.out 2 (by omega)) (by omega) P2.out).mono ?_;rintro e u2 ⟨A3,c3',rfl,P3⟩;have c3:u2.cell? ⟨g2,3,none⟩=some (.int .u32 z3):=by rw [P3.out.row.cell, ← HZ3.out];rfl
  clear c2 P2;go_wp2_with fail;refine (num_pk (n:=7) 11 4 z3 HZ3.out rfl rfl rfl (.inr (.inr (.inl rfl))) (HF.out 3 (by omega)) (by omega) P3.out).mono ?_;rintro e u3 ⟨A4,c4',rfl,P4⟩;have c4:u3.cell? ⟨g2,4,none⟩=some (.int .i64 z4):=by rw [P4.out.row.cell, ← HZ4.out];rfl
  clear c3 P3;go_wp2_with fail;refine (num_pk (n:=11) 13 2 z4 HZ4.out rfl rfl rfl (.inr (.inl rfl)) (HF.out 4 (by omega)) (by omega) P4.out).mono ?_;rintro e u4 ⟨A5,c5',rfl,P5⟩;have c5:u4.cell? ⟨g2,5,none⟩=some (.int .i64 z5):=by rw [P5.out.row.cell, ← HZ5.out];rfl
  clear c4 P4;go_wp2_with fail;refine (num_pk (n:=13) 17 4 z5 HZ5.out rfl rfl rfl (.inr (.inr (.inl rfl))) (HF.out 5 (by omega)) (by omega) P5.out).mono ?_;rintro e u5 ⟨A6,c6',rfl,P6⟩;have c6:u5.cell? ⟨g2,6,none⟩=some (.int .u64 z6):=by rw [P6.out.row.cell, ← HZ6.out];rfl
  clear c5 P5;go_wp2_with fail;refine (num_pk (n:=17) 25 8 z6 HZ6.out rfl rfl rfl (.inr (.inr (.inr rfl))) (HF.out 6 (by omega)) (by omega) P6.out).mono ?_;rintro e u6 ⟨A7,c7',rfl,P7⟩;have c7:u6.cell? ⟨g2,7,none⟩=some (.int .u32 z7):=by rw [P7.out.row.cell, ← HZ7.out];rfl
  clear c6 P6;go_wp2_with fail;refine (num_pk (n:=25) 29 4 z7 HZ7.out rfl rfl rfl (.inr (.inr (.inl rfl))) (HF.out 7 (by omega)) (by omega) P7.out).mono ?_;rintro e u7 ⟨A8,c8',rfl,P8⟩;have c8:u7.cell? ⟨g2,8,none⟩=some (.int .i64 z8):=by rw [P8.out.row.cell, ← HZ8.out];rfl
  clear c7 P7;go_wp2_with fail;refine (num_pk (n:=29) 31 2 z8 HZ8.out rfl rfl rfl (.inr (.inl rfl)) (HF.out 8 (by omega)) (by omega) P8.out).mono ?_;rintro e u8 ⟨A9,c9',rfl,P9⟩;have c9:u8.cell? ⟨g2,9,none⟩=some (.int .u32 z9):=by rw [P9.out.row.cell, ← HZ9.out];rfl
  clear c8 P8;go_wp2_with fail;refine (num_pk (n:=31) 35 4 z9 HZ9.out rfl rfl rfl (.inr (.inr (.inl rfl))) (HF.out 9 (by omega)) (by omega) P9.out).mono ?_;rintro e u9 ⟨A10,c10',rfl,P10⟩;clear c9 P9;go_wp2_with fail;refine (putslots_any w.heap.size A10 35 c10' (nb sz v 10) (some ⟨g2,10,none⟩) 16 16 (fun j=>v (10+j)) 67 rfl (by rw [nb_len];rfl) (by omega) (fun j hj=>HMY.out.2.2.2.2.2.2.1 j hj) u9 P10.out.b.size P10.out.own (hol_ino P10.out.row)).mono ?_;rintro e u10 ⟨A11,c11',rfl,ho11,hb11⟩;have P11:=Za (p:=PK w u10 g2 v A11 c11' 67 26) ⟨P10.out.row.kept hb11.out,by have h1:=ho11.out;rw [show nb sz v 10++nb s2 (fun j=>v (10+j)) 16=nb sz v 26 from nb_slots v 0 16] at h1;exact h1,below_nxt hb11.out P10.out.b⟩;have c26:u10.cell? ⟨g2,26,none⟩=some (.int .i64 (v 26)):=by rw [P11.out.row.cell];rfl
  clear ho11 hb11 P10;go_wp2_with fail;have P12:=Za (p:=PK w (u10.alloc (.cells #[.int .i64 (v 26)] 3)) g2 v A11 c11' 67 26) ⟨P11.out.row.alloc _,P11.out.own.alloc _,P11.out.b.alloc P11.out.b.size _⟩;have hh:=hol_single (w:=u10.alloc (.cells #[.int .i64 (v 26)] 3)) (g:=u10.heap.size) (z:=v 26) (by simp);have hy:0≤v 26∧v 26≤255:=HMY.out.2.2.2.2.2.2.2;refine (putslots_any w.heap.size A11 67 c11' (nb sz v 26) (some ⟨u10.heap.size,0,none⟩) 1 1 (fun _=>v 26) 69 rfl (by rw [nb_len];rfl) (by omega) (fun j hj=>hy) _ P12.out.b.size P12.out.own hh).mono ?_;rintro e u11 ⟨A12,c12',rfl,ho12,hb12⟩;have hb13:=Za (below_nxt hb12.out P12.out.b);have ho13:=Za (p:=u11.ownsRow w.heap.size 5 1 (.slice A12 69 c12') 69 (bc (nb sz v 27))) ho12.out;clear ho12 hb12 hh c26 P11 P12;go_wp2_with fail;refine (whole_any w.heap.size A12 69 c12' (nb sz v 27) (by omega) (by omega) u11 hb13.out.size ho13.out).mono ?_;rintro e u12 ⟨A14,c14',rfl,ho14,hb14⟩;go_wp2;go_ret2;exact ⟨A14,c14',rfl,ho14,Za (hb13.out.trans hb14.out)⟩
/- Package inode:a list's block;slots that a cursor tells. Conditions:those named. -/
theorem packlist_not (f:Nat→Int) (h:slotB f 112=false) (w:World):Calls Tryz.prog 89 #[.agg (inl 112 f).toArray] w fun e w'=>e=.returned (.tuple #[.slice none 0 0,.int .i64 201])∧Below w.heap.size w w':=by
  have HA:=Za (fun (w:World) (g:Nat) (hr:Row w g 146 (inl 112 f))=>areslots_any _ 112 112 f (by omega) w (hol_112 hr));rw [h] at HA;clear h;go_enter Tryz.func89,Tryz.ntmps89
  go_wp2_with (first
    | (refine step_box rfl 1 rfl 146 (.tmp 0) rfl (inl 112 f) rfl ?_;intro g2 w2 hr2 hg2 hb2 hs2;have R2:=Za hr2
       have HB2:=Za hb2;clear hr2 hb2 hg2 hs2)
    | (go_at_call 106;refine (HA.out _ _ R2.out).mono ?_;rintro e w3 ⟨rfl,rfl⟩))
  go_ret2;exact ⟨rfl,HB2.out⟩
theorem packlist_ok (f:Nat→Int) (h:slotB f 112=true) (w:World):Calls Tryz.prog 89 #[.agg (inl 112 f).toArray] w fun e w'=>∃ A c,e=.returned (.tuple #[.slice A 256 c,.int .i64 0])∧Hid (w'.ownsRow w.heap.size 5 1 (.slice A 256 c) 256 (bc (blk s2 f 112)))∧Hid (Below w.heap.size w w'):=by
  have HA:=Za (fun (w:World) (g:Nat) (hr:Row w g 146 (inl 112 f))=>areslots_any _ 112 112 f (by omega) w (hol_112 hr));have HF:=Za ((slotB_iff f 112).1 h);rw [h] at HA;clear h;go_enter Tryz.func89,Tryz.ntmps89
  go_wp2_with (first
    | (refine step_box rfl 1 rfl 146 (.tmp 0) rfl (inl 112 f) rfl ?_;intro g2 w2 hr2 hg2 hb2 hs2;have R2:=Za hr2
       have HB2:=Za hb2;clear hr2 hb2 hg2 hs2)
    | (go_at_call 106;refine (HA.out _ _ R2.out).mono ?_;rintro e w3 ⟨rfl,rfl⟩)
    | (go_at_call 69;refine (putslots_any w.heap.size none 0 0 [] (some ⟨g2,0,none⟩) 112 112 f 224 rfl rfl (by omega) HF.out _ HB2.out.size (Ye _ _ _ _) (hol_112 R2.out)).mono ?_
       rintro e w4 ⟨A4,c4,rfl,ho4,hb4⟩;have HO4:=Za (p:=w4.ownsRow w.heap.size 5 1 (.slice A4 224 c4) 224 (bc (nb s2 f 112))) (by have:=ho4.out;rwa [Zt] at this);have HB4:=Za (below_nxt hb4.out HB2.out);clear ho4 hb4)
    | (go_at_call 70;refine (whole_any w.heap.size A4 224 c4 (nb s2 f 112) (by omega) (by omega) _ HB4.out.size HO4.out).mono ?_
       rintro e w5 ⟨A5,c5,rfl,HO5,hb5⟩;have HB5:=Za (HB4.out.trans hb5.out);clear hb5))
  go_ret2;exact ⟨A5,c5,rfl,HO5,HB5⟩
structure Two (a b:Nat) (w w':World):Prop where
  os:w'.os=w.os
  tape:w'.tape=w.tape
  output:w'.output=w.output
  size:w.heap.size≤w'.heap.size
  block:∀ k,k<w.heap.size→k≠a→k≠b→w'.heap[k]?=w.heap[k]?
theorem Two.refl (a b:Nat) (w:World):Two a b w w:=⟨rfl,rfl,rfl,Zj _,fun _ _ _ _=>rfl⟩
theorem Two.one {a b:Nat} {w u v:World} (h:Two a b w u) {r:Option Nat} (hg:u.grownBy v r) (hr:r=some a∨r=some b∨r=none):Two a b w v:=by
  refine ⟨hg.os.trans h.os,hg.tape.trans h.tape,hg.output.trans h.output,Nat.le_trans h.size hg.size,fun k hk ha hb=>(hg.block k (Yc hk h.size) ?_).trans (h.block k hk ha hb)⟩;rcases hr with rfl | rfl | rfl
  · intro e;injection e with e;exact ha e
  · intro e;injection e with e;exact hb e
  · simp
theorem Two.row {a b g:Nat} {w w':World} {t:TypeId} {cs:List Value} (h:Two a b w w') (hr:Row w g t cs) (ha:g≠a) (hb:g≠b):Row w' g t cs:=(h.block g hr.lt ha hb).trans hr
theorem Two.below {n a b:Nat} {W w w':World} (h:Two a b w w') (hb:Below n W w) (hn:n≤w.heap.size) (h1:n≤a) (h2:n≤b):Below n W w':=
  ⟨h.os.trans hb.os,h.tape.trans hb.tape,h.output.trans hb.output,Nat.le_trans hb.size h.size,fun k hk=>(h.block k (Yc hk hn) (by omega) (by omega)).trans (hb.block k hk)⟩
theorem readslots_any (gc g:Nat) (hgc:gc≠g) (l:List UInt8) (o m d:Nat) (t:TypeId) (ht:t≠5) (C:Nat→List Value) (hC:∀ k,k<m→(C k).set (o+k) (.int .i64 ((num ((l.drop (2*k)).take 2):Nat):Int))=C (k+1)) (hz:∀ k,k<m→∃ z,(C k)[o+k]?=some (.int .i64 z))
    (hm:m≤112) (h2m:2*m≤l.length) (hl:l.length≤256) (w:World) (hc:Cur w gc l false) (hr:Row w g t (C 0)):
    Calls Tryz.prog 109 #[.func (.func 74) #[.pointer (some ⟨gc,0,none⟩)] #[],.slice (some ⟨g,o,none⟩) m d] w fun e w'=>e=.returned (.tuple #[])∧Hid (Cur w' gc (l.drop (2*m)) false)∧Hid (Row w' g t (C m))∧Hid (Two gc g w w'):=by
  have HC:=Za (p:=Cur w gc (l.drop (2*0)) false) (by rw [Nat.mul_zero,List.drop_zero];exact hc);have HR:=Za hr;have HS:=Za hC;have HZ:=Za hz;have HM:=Za hm;have HL:=Za (p:=2*m≤l.length∧l.length≤256) ⟨h2m,hl⟩;have HG:=Za hgc;have HT:=Za ht;clear hc hr hC hz hm h2m hl hgc ht;go_enter Tryz.func109,Tryz.ntmps109;go_wp2;go_loopw [7] (fun y wr=>∃ k:Nat,Hid (k≤m)∧y=.int .i64 (k:Int)∧Hid (Cur wr gc (l.drop (2*k)) false)∧Hid (Row wr g t (C k))∧Hid (Two gc g w wr)) (fun y _=>112 - (intOf y).toNat)
  case atStart=>exact ⟨0,Za (by omega),rfl,HC,HR,Za (Two.refl _ _ _)⟩
  case round=>
    clear HC HR;obtain ⟨k,HK,rfl,HC,HR,HW⟩:=hrel;have hkw:IntKind.i64.wrap ((k:Int)+1)=(k:Int)+1:=by rw [Zg];have:=HK.out;have:=HM.out;omega
    by_cases hkm:k<m
    · have hki : (k :Int)<(m:Int):=by omega
      have hk0:(0:Int)≤(k:Int):=by omega
      have HKM:=Za hkm;have HNM:=Za (cnum_at gc (l.drop (2*k)) 2 (by omega) wr HC.out (by rw [Zs];have:=HL.out;omega) (by rw [Zs];have:=HL.out;omega));obtain ⟨x,hx⟩:∃ x,num ((l.drop (2*k)).take 2)=x:=⟨_,rfl⟩;have hx2:x<65536:=by rw [← hx];exact num_take_lt _ 2
      have hxw:IntKind.i64.wrap (x:Int)=(x:Int):=by rw [Zg];omega
      have HX:=Za hx;rw [hx] at HNM;clear hkm hx hx2
      go_wp2_with (go_at_call 74;refine HNM.out.mono ?_;rintro e w2 ⟨rfl,hc2,hg2⟩;obtain ⟨z,hz⟩:=HZ.out k HKM.out
                   have HR2:=Za (HR.out.grown hg2.out (fun e=>by injection e with e;have:=HG.out;omega));have c2:w2.cell? ⟨g,o+k,none⟩=some (.int .i64 z):=by rw [HR2.out.cell,hz]
                   have f2:=HR2.out.free (o+k);have HC2:=Za (p:=Cur w2 gc (l.drop (2*(k+1))) false) (by have h9:=hc2.out;rw [List.drop_drop] at h9;exact h9);have HW2:=Za (HW.out.one hg2.out (.inl rfl));clear hc2 hg2 hz)
      have HR3:=Za (p:=Row (w2.setCell ⟨g,o+k,none⟩ (.int .i64 (x:Int))) g t (C (k+1))) (by rw [← HS.out k HKM.out,HX.out];exact HR2.out.put _ _);have HC3:=Za (p:=Cur (w2.setCell ⟨g,o+k,none⟩ (.int .i64 (x:Int))) gc (l.drop (2*(k+1))) false) (HC2.out.grown (grown_set w2 ⟨g,o+k,none⟩ _) (fun e=>by injection e with e;replace e:gc=g:=e;have:=HG.out;omega) (fun q hq=>HR2.out.no8 HT.out q hq));have HW3:=Za (p:=Two gc g w (w2.setCell ⟨g,o+k,none⟩ (.int .i64 (x:Int)))) (HW2.out.one (grown_set w2 ⟨g,o+k,none⟩ _) (.inr (.inl rfl)));go_roundw
      case rel=>exact ⟨k+1,Za HKM.out,by go_num,HC3,HR3,HW3⟩
      case measure=>have:=HKM.out;have:=HM.out;simp [intOf];omega
    · obtain rfl:k=m:=by have:=HK.out;omega
      have hki:¬ (k:Int)<(k:Int):=by omega
      clear hkm;go_wp2;go_end0;exact ⟨rfl,HC,HR,HW⟩
end Go.Proofs.YtijffkklhgnknaaGreatDoor
