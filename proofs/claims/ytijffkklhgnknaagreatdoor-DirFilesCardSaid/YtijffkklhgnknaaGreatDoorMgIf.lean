/- Package inode: the inode that a cursor tells. Conditions: those named. -/
import Derived.Test.YtijffkklhgnknaaGreatDoorAz
import Derived.Test.YtijffkklhgnknaaGreatDoorMgGv
import Derived.Deep.RegionHeld
set_option maxHeartbeats 20000000
set_option linter.unusedVariables false
set_option maxRecDepth 20000
namespace Go.Proofs.YtijffkklhgnknaaGreatDoor
open Go.RowKit
def up (L:List UInt8) (k j:Nat):Int:=if j<k then rd sz L j else 0
theorem up_zero (L:List UInt8):ncs (up L 0)=ncs ino0:=ncs_congr fun j _=>by unfold up;rw [if_neg (by omega)];rfl
theorem up_all (L:List UInt8):ncs (up L 27)=ncs (rd sz L):=ncs_congr fun j hj=>by unfold up;rw [if_pos hj]
theorem up_step (L:List UInt8) (k:Nat) (hk:k<27):(ncs (up L k)).set k (.int (kd k) (rd sz L k))=ncs (up L (k+1)):=by
  rw [ncs_set _ hk];refine ncs_congr fun j _=>?_;unfold at1 up;by_cases h:j=k
  · subst h;rw [if_pos rfl,if_pos (by omega)]
  · rw [if_neg h];by_cases h2:j<k
    · rw [if_pos h2,if_pos (by omega)]
    · rw [if_neg h2,if_neg (by omega)]
structure RS (w0 w:World) (gc g2 g3:Nat) (L:List UInt8) (kc kr:Nat):Prop where
  cur:Cur w gc (L.drop (off sz kc)) false
  r2:Row w g2 43 (ncs ino0)
  r3:Row w g3 43 (ncs (up L kr))
  n:gc<g2∧g2<g3
  q:w0.heap.size≤g2
  b:w0.grownBy w (some gc)
theorem ino_u8:43≠5:=by decide
theorem RS.turn {w0 w w':World} {gc g2 g3:Nat} {L:List UInt8} {kc kr kc':Nat} (h:RS w0 w gc g2 g3 L kc kr) (hc:Cur w' gc (L.drop (off sz kc')) false) (hg:w.grownBy w' (some gc)):RS w0 w' gc g2 g3 L kc' kr:=
  ⟨hc,h.r2.grown hg (fun e=>by injection e with e;have:=h.n;omega),h.r3.grown hg (fun e=>by injection e with e;have:=h.n;omega),h.n,h.q,grown_trans h.b hg⟩
theorem RS.put {w0 w:World} {gc g2 g3:Nat} {L:List UInt8} {kc k:Nat} (h:RS w0 w gc g2 g3 L kc k) (hk:k<27) {u:Value} (hu:u=.int (kd k) (rd sz L k)):RS w0 (w.setCell ⟨g3,k,none⟩ u) gc g2 g3 L kc (k+1):=by
  subst hu;have hg:=grown_set w ⟨g3,k,none⟩ (.int (kd k) (rd sz L k));refine ⟨h.cur.grown hg (fun e=>by injection e with e;replace e:gc=g3:=e;have:=h.n;omega) (fun q hq=>h.r3.no8 ino_u8 q hq),h.r2.grown hg (fun e=>by injection e with e;replace e:g2=g3:=e;have:=h.n;omega),?_,h.n,h.q,?_⟩
  · rw [← up_step L k hk];exact h.r3.put k _
  · exact ⟨hg.os.trans h.b.os,hg.tape.trans h.b.tape,hg.output.trans h.b.output,Nat.le_trans h.b.size hg.size,fun j hj hne=>(hg.block j (Yc hj h.b.size) (fun e=>by injection e with e;replace e:j=g3:=e;have:=h.q;have:=h.n;omega)).trans (h.b.block j hj hne)⟩
theorem RS.num {w0 w:World} {gc g2 g3:Nat} {L:List UInt8} {k kr:Nat} (h:RS w0 w gc g2 g3 L k kr) (s x:Nat) (hs:sz k=s) (hx:rdn sz L k=x) (hk:s=1∨s=2∨s=4∨s=8) (hl:off sz k+s≤L.length) (hl2:L.length≤256):
    Calls Tryz.prog 74 #[.pointer (some ⟨gc,0,none⟩),.int .i64 (s:Int)] w fun e w'=>e=.returned (.int .u64 (x:Int))∧Hid (RS w0 w' gc g2 g3 L (k+1) kr):=by
  subst hs;refine (cnum_at gc (L.drop (off sz k)) (sz k) hk w h.cur (by rw [Zs];omega) (by rw [Zs];omega)).mono ?_;rintro e w' ⟨rfl,hc,hg⟩;refine ⟨by rw [← hx];rfl,Za (h.turn ?_ hg.out)⟩;have:=hc.out;rw [List.drop_drop] at this;exact this
theorem read_any (gc:Nat) (L:List UInt8) (w:World) (hc:Cur w gc L false) (hl:L.length=256):
    Calls Tryz.prog 72 #[.func (.func 74) #[.pointer (some ⟨gc,0,none⟩)] #[]] w fun e w'=>e=.returned (.agg (ncs (rd sz L)).toArray)∧Hid (w.grownBy w' (some gc)):=by
  have i1:=Za (fun v=>info_ncs v);have hz:=Za zero_ino;have HC:=Za hc;have HL:=Za hl;clear hc hl;obtain ⟨x0,hx0⟩:∃ x,rdn sz L 0=x:=⟨_,rfl⟩;have bx0:x0<256:=by rw [← hx0];exact rdn_lt sz L 0
  have wx0:IntKind.i64.wrap (x0:Int)=(x0:Int):=by rw [Zg];omega
  have HX0:=Za hx0;obtain ⟨x1,hx1⟩:∃ x,rdn sz L 1=x:=⟨_,rfl⟩;have bx1:x1<65536:=by rw [← hx1];exact rdn_lt sz L 1
  have wx1:IntKind.i64.wrap (x1:Int)=(x1:Int):=by rw [Zg];omega
  have HX1:=Za hx1;obtain ⟨x2,hx2⟩:∃ x,rdn sz L 2=x:=⟨_,rfl⟩;have bx2:x2<4294967296:=by rw [← hx2];exact rdn_lt sz L 2
  have wx2:IntKind.u32.wrap (x2:Int)=(x2:Int):=by rw [wrap_32];omega
  have mx2:(x2:Int) % 4294967296=(x2:Int):=by omega
  have HX2:=Za hx2;obtain ⟨x3,hx3⟩:∃ x,rdn sz L 3=x:=⟨_,rfl⟩;have bx3:x3<4294967296:=by rw [← hx3];exact rdn_lt sz L 3
  have wx3:IntKind.u32.wrap (x3:Int)=(x3:Int):=by rw [wrap_32];omega
  have mx3:(x3:Int) % 4294967296=(x3:Int):=by omega
  have HX3:=Za hx3;obtain ⟨x4,hx4⟩:∃ x,rdn sz L 4=x:=⟨_,rfl⟩;have bx4:x4<65536:=by rw [← hx4];exact rdn_lt sz L 4
  have wx4:IntKind.i64.wrap (x4:Int)=(x4:Int):=by rw [Zg];omega
  have HX4:=Za hx4;obtain ⟨x5,hx5⟩:∃ x,rdn sz L 5=x:=⟨_,rfl⟩;have bx5:x5<4294967296:=by rw [← hx5];exact rdn_lt sz L 5
  have wx5:IntKind.i64.wrap (x5:Int)=(x5:Int):=by rw [Zg];omega
  have HX5:=Za hx5;obtain ⟨x6,hx6⟩:∃ x,rdn sz L 6=x:=⟨_,rfl⟩;have HX6:=Za hx6;obtain ⟨x7,hx7⟩:∃ x,rdn sz L 7=x:=⟨_,rfl⟩;have bx7:x7<4294967296:=by rw [← hx7];exact rdn_lt sz L 7
  have wx7:IntKind.u32.wrap (x7:Int)=(x7:Int):=by rw [wrap_32];omega
  have mx7:(x7:Int) % 4294967296=(x7:Int):=by omega
  have HX7:=Za hx7;obtain ⟨x8,hx8⟩:∃ x,rdn sz L 8=x:=⟨_,rfl⟩;have bx8:x8<65536:=by rw [← hx8];exact rdn_lt sz L 8
  have wx8:IntKind.i64.wrap (x8:Int)=(x8:Int):=by rw [Zg];omega
  have HX8:=Za hx8;obtain ⟨x9,hx9⟩:∃ x,rdn sz L 9=x:=⟨_,rfl⟩;have bx9:x9<4294967296:=by rw [← hx9];exact rdn_lt sz L 9
  have wx9:IntKind.u32.wrap (x9:Int)=(x9:Int):=by rw [wrap_32];omega
  have mx9:(x9:Int) % 4294967296=(x9:Int):=by omega
  have HX9:=Za hx9;obtain ⟨x26,hx26⟩:∃ x,rdn sz L 26=x:=⟨_,rfl⟩;have bx26:x26<65536:=by rw [← hx26];exact rdn_lt sz L 26
  have wx26:IntKind.i64.wrap (x26:Int)=(x26:Int):=by rw [Zg];omega
  have HX26:=Za hx26;clear hx0 hx1 hx2 hx3 hx4 hx5 hx6 hx7 hx8 hx9 hx26 bx0 bx1 bx2 bx3 bx4 bx5 bx7 bx8 bx9 bx26;go_enter Tryz.func72,Tryz.ntmps72
  go_wp2_with (first
    | (refine step_alloc rfl 2 rfl 43 rfl _ hz.out ?_;intro g2 w1 hr1 hg1 hb1 hs1;have R1:=Za hr1
       have HB1:=Za hb1;have HG1:=Za (p:=g2=w.heap.size) hg1.out;clear hr1 hb1 hg1 hs1)
    | (refine step_alloc rfl 3 rfl 43 rfl _ hz.out ?_;intro g3 w2 hr2 hg2 hb2 hs2;have N0:=Za (p:=RS w w2 gc g2 g3 L 0 0) ⟨by rw [off,List.drop_zero];exact HC.out.below (HB1.out.trans (hb2.mono HB1.out.size)),R1.out.kept hb2,by rw [up_zero];exact hr2,⟨by have h1:=HC.out.lt;have h2:=HG1.out;omega,by have h1:=R1.out.lt;have h2:=hg2.out;omega⟩,by rw [HG1.out];exact Zj _,grown_of_below (HB1.out.trans (hb2.mono HB1.out.size))⟩
       clear hr2 hb2 hg2 hs2 R1 HB1 HC))
  refine (N0.out.num 1 x0 rfl HX0.out (.inl rfl) (by rw [HL.out];decide) (by rw [HL.out];decide)).mono ?_;rintro e w10 ⟨rfl,M0⟩;have c0:w10.cell? ⟨g3,0,none⟩=some (.int .i64 0):=by rw [M0.out.r3.cell];rfl
  have f0:=M0.out.r3.free 0;have N1:=Za (M0.out.put (by omega) (u:=.int .i64 (x0:Int)) (by rw [← HX0.out];rfl));clear N0 M0;go_wp2_with fail;refine (N1.out.num 2 x1 rfl HX1.out (.inr (.inl rfl)) (by rw [HL.out];decide) (by rw [HL.out];decide)).mono ?_;rintro e w11 ⟨rfl,M1⟩;have c1:w11.cell? ⟨g3,1,none⟩=some (.int .i64 0):=by rw [M1.out.r3.cell];rfl
  have f1:=M1.out.r3.free 1;have N2:=Za (M1.out.put (by omega) (u:=.int .i64 (x1:Int)) (by rw [← HX1.out];rfl));clear N1 M1 c0 f0;go_wp2_with fail;refine (N2.out.num 4 x2 rfl HX2.out (.inr (.inr (.inl rfl))) (by rw [HL.out];decide) (by rw [HL.out];decide)).mono ?_;rintro e w12 ⟨rfl,M2⟩;have c2:w12.cell? ⟨g3,2,none⟩=some (.int .u32 0):=by rw [M2.out.r3.cell];rfl
  have f2:=M2.out.r3.free 2;have N3:=Za (M2.out.put (by omega) (u:=.int .u32 (x2:Int)) (by rw [← HX2.out];rfl));clear N2 M2 c1 f1;go_wp2_with fail;refine (N3.out.num 4 x3 rfl HX3.out (.inr (.inr (.inl rfl))) (by rw [HL.out];decide) (by rw [HL.out];decide)).mono ?_;rintro e w13 ⟨rfl,M3⟩;have c3:w13.cell? ⟨g3,3,none⟩=some (.int .u32 0):=by rw [M3.out.r3.cell];rfl
  have f3:=M3.out.r3.free 3;have N4:=Za (M3.out.put (by omega) (u:=.int .u32 (x3:Int)) (by rw [← HX3.out];rfl));clear N3 M3 c2 f2;go_wp2_with fail;refine (N4.out.num 2 x4 rfl HX4.out (.inr (.inl rfl)) (by rw [HL.out];decide) (by rw [HL.out];decide)).mono ?_;rintro e w14 ⟨rfl,M4⟩;have c4:w14.cell? ⟨g3,4,none⟩=some (.int .i64 0):=by rw [M4.out.r3.cell];rfl
  have f4:=M4.out.r3.free 4;have N5:=Za (M4.out.put (by omega) (u:=.int .i64 (x4:Int)) (by rw [← HX4.out];rfl));clear N4 M4 c3 f3;go_wp2_with fail;refine (N5.out.num 4 x5 rfl HX5.out (.inr (.inr (.inl rfl))) (by rw [HL.out];decide) (by rw [HL.out];decide)).mono ?_;rintro e w15 ⟨rfl,M5⟩;have c5:w15.cell? ⟨g3,5,none⟩=some (.int .i64 0):=by rw [M5.out.r3.cell];rfl
  have f5:=M5.out.r3.free 5;have N6:=Za (M5.out.put (by omega) (u:=.int .i64 (x5:Int)) (by rw [← HX5.out];rfl));clear N5 M5 c4 f4;go_wp2_with fail;refine (N6.out.num 8 x6 rfl HX6.out (.inr (.inr (.inr rfl))) (by rw [HL.out];decide) (by rw [HL.out];decide)).mono ?_;rintro e w16 ⟨rfl,M6⟩;have c6:w16.cell? ⟨g3,6,none⟩=some (.int .u64 0):=by rw [M6.out.r3.cell];rfl
  have f6:=M6.out.r3.free 6;have N7:=Za (M6.out.put (by omega) (u:=.int .u64 (x6:Int)) (by rw [← HX6.out];rfl));clear N6 M6 c5 f5;go_wp2_with fail;refine (N7.out.num 4 x7 rfl HX7.out (.inr (.inr (.inl rfl))) (by rw [HL.out];decide) (by rw [HL.out];decide)).mono ?_;rintro e w17 ⟨rfl,M7⟩;have c7:w17.cell? ⟨g3,7,none⟩=some (.int .u32 0):=by rw [M7.out.r3.cell];rfl
  have f7:=M7.out.r3.free 7;have N8:=Za (M7.out.put (by omega) (u:=.int .u32 (x7:Int)) (by rw [← HX7.out];rfl));clear N7 M7 c6 f6;go_wp2_with fail;refine (N8.out.num 2 x8 rfl HX8.out (.inr (.inl rfl)) (by rw [HL.out];decide) (by rw [HL.out];decide)).mono ?_;rintro e w18 ⟨rfl,M8⟩;have c8:w18.cell? ⟨g3,8,none⟩=some (.int .i64 0):=by rw [M8.out.r3.cell];rfl
  have f8:=M8.out.r3.free 8;have N9:=Za (M8.out.put (by omega) (u:=.int .i64 (x8:Int)) (by rw [← HX8.out];rfl));clear N8 M8 c7 f7;go_wp2_with fail;refine (N9.out.num 4 x9 rfl HX9.out (.inr (.inr (.inl rfl))) (by rw [HL.out];decide) (by rw [HL.out];decide)).mono ?_;rintro e w19 ⟨rfl,M9⟩;have c9:w19.cell? ⟨g3,9,none⟩=some (.int .u32 0):=by rw [M9.out.r3.cell];rfl
  have f9:=M9.out.r3.free 9;have N10:=Za (M9.out.put (by omega) (u:=.int .u32 (x9:Int)) (by rw [← HX9.out];rfl));clear N9 M9 c8 f8;go_wp2_with fail;refine (readslots_any gc g3 (by have:=N10.out.n;omega) (L.drop 35) 10 16 16 43 ino_u8 (fun j=>ncs (up L (10+j))) ?hC ?hz (by omega) (by rw [Zs,HL.out];decide) (by rw [Zs,HL.out];decide) _ N10.out.cur N10.out.r3).mono ?_
  case hC=>
    intro k hk;have h1:=up_step L (10+k) (by omega);have h2:kd (10+k)=.i64:=by unfold kd;rw [if_neg (by omega),if_neg (by omega)]
    rw [h2] at h1;refine Eq.trans ?_ h1;unfold rd rdn;rw [off_slot,sz_slot,List.drop_drop]
  case hz=>exact fun k hk=>⟨_,ncs_slot _ (by omega)⟩
  rintro e w30 ⟨rfl,hc30,hr30,ht30⟩;have N26:=Za (p:=RS w w30 gc g2 g3 L 26 26) ⟨by have h9:=hc30.out;rw [List.drop_drop] at h9;exact h9,ht30.out.row N10.out.r2 (by have:=N10.out.n;omega) (by have:=N10.out.n;omega),hr30.out,N10.out.n,N10.out.q,⟨ht30.out.os.trans N10.out.b.os,ht30.out.tape.trans N10.out.b.tape,ht30.out.output.trans N10.out.b.output,Nat.le_trans N10.out.b.size ht30.out.size,fun j hj hne=>(ht30.out.block j (Yc hj N10.out.b.size) (fun e=>hne (by rw [e])) (by have:=N10.out.q;have:=N10.out.n;omega)).trans (N10.out.b.block j hj hne)⟩⟩;clear hc30 hr30 ht30 N10 c9 f9;go_wp2_with fail;refine (N26.out.num 2 x26 rfl HX26.out (.inr (.inl rfl)) (by rw [HL.out];decide) (by rw [HL.out];decide)).mono ?_;rintro e w31 ⟨rfl,M26⟩;have c26:w31.cell? ⟨g3,26,none⟩=some (.int .i64 0):=by rw [M26.out.r3.cell];rfl
  have f26:=M26.out.r3.free 26;have N27:=Za (M26.out.put (by omega) (u:=.int .i64 (x26:Int)) (by rw [← HX26.out];rfl));clear N26 M26
  go_wp2_with (first
    | (refine step_load rfl 51 rfl 43 (.tmp 3) rfl g3 rfl (ncs (up L 27)) _ N27.out.r3.all Yh rfl (i1.out _) ?_)
    | (refine step_store rfl 43 (.tmp 2) (.tmp 51) rfl g2 (by rfl) _ (ncs ino0) (ncs (up L 27)) (by rfl) N27.out.r2 rfl (i1.out _) (ncs_one _) ?_;intro w33 hr33 hg33 hs33))
  rw [up_all] at hr33;refine Yd (results_cell_row rfl _ _ g2 _ _ _ _ rfl hr33 Yh rfl (by simpa using i1.out (rd sz L))) rfl ?_;have hN:=N27.out;exact ⟨rfl,Za ⟨hg33.os.trans hN.b.os,hg33.tape.trans hN.b.tape,hg33.output.trans hN.b.output,Nat.le_trans hN.b.size hg33.size,fun k hk hne=>(hg33.block k (Yc hk hN.b.size) (fun e=>by injection e with e;have:=hN.q;omega)).trans (hN.b.block k hk hne)⟩⟩
/- Package inode:the inode of a block,or none. Conditions:those named. -/
theorem kd_u32 {k:Nat} (h:kd k=.u32):sz k=4:=by
  unfold kd at h
  split at h
  · rename_i h1
    rcases h1 with rfl | rfl | rfl | rfl <;> rfl
  · split at h <;> cases h
theorem rd_wf (l:List UInt8):Wf (rd sz l):=by
  refine ⟨fun k hk=>?_,?_⟩
  · have h1:=rdn_lt sz l k;rw [kd_u32 hk] at h1;have e:(256:Nat) ^ 4=4294967296:=rfl;unfold rd;omega
  · have h1:=rdn_lt sz l 6;have e:(256:Nat) ^ sz 6=18446744073709551616:=rfl;unfold rd;omega
def iOk (l:List UInt8):Bool:=decide (l.length=256) && (mayB (rd sz l) && decide (blk sz (rd sz l) 27=l))
def iV (l:List UInt8):Value:=.tuple #[.agg (ncs (if iOk l=true then rd sz l else ino0)).toArray,.int .i64 (if iOk l=true then 0 else 210)]
theorem iV_bad {l:List UInt8} (h:iOk l=false):iV l=.tuple #[.agg (ncs ino0).toArray,.int .i64 210]:=by unfold iV;rw [h];rfl
theorem iV_ok {l:List UInt8} (h:iOk l=true):iV l=.tuple #[.agg (ncs (rd sz l)).toArray,.int .i64 0]:=by unfold iV;rw [h];rfl
theorem unpack_any (A:Option Addr) (n c:Nat) (l:List UInt8) (hn:l.length=n) (hlen:n<9223372036854775808) (w:World) (hA:Hol w A l):
    Calls Tryz.prog 33 #[.slice A n c] w fun e w'=>e=.returned (iV l)∧Below w.heap.size w w':=by
  have i1:=Za (fun v=>info_ncs v);have hz:=Za zero_ino;by_cases h256:n=256
  · subst h256
    have HNew:Hid (∀ w',Below w.heap.size w w'→Calls Tryz.prog 73 #[.slice A 256 c] w' fun e w''=>∃ g,e=.returned (.pointer (some ⟨g,0,none⟩))∧w'.heap.size≤g∧Cur w'' g l false∧Below w'.heap.size w' w''):=fun w' hb=>by
      have h:=cur_new_any A c l w' (hA.below hb) (by omega);rwa [hn] at h
    have HA:=Za hA;have HL:=Za hn;have hok:iOk l=(mayB (rd sz l) && decide (blk sz (rd sz l) 27=l)):=by unfold iOk;rw [decide_eq_true hn,Bool.true_and]
    cases hm:mayB (rd sz l)
    · rw [hm,Bool.false_and] at hok;have HU:=Za hok;have HP:=Za (fun w=>pack_not (rd sz l) hm w);clear hA hn hlen hok hm;go_enter Tryz.func33,Tryz.ntmps33
      go_wp2_with (first
        | (refine step_alloc rfl 2 rfl 43 rfl _ hz.out ?_;intro g2 w2 hr2 hg2 hb2 hs2;have R2:=Za hr2
           have HB2:=Za hb2;have Q2:=Za (p:=w.heap.size≤g2) (by rw [hg2.out];exact Zj _);clear hr2 hb2 hg2 hs2)
        | (go_at_call 73;refine (HNew.out _ HB2.out).mono ?_;rintro e5 w5 ⟨g5,rfl,hq5,hc5,hb5⟩;have R25:=Za (R2.out.kept hb5)
           have HB5:=Za (HB2.out.trans (hb5.mono HB2.out.size));have N5:=Za (p:=g2<g5∧w.heap.size≤g5) ⟨Yc R2.out.lt hq5,Nat.le_trans HB2.out.size hq5⟩;have HC5:=Za hc5;clear hq5 hc5 hb5)
        | (go_at_call 72;refine (read_any g5 l _ HC5.out HL.out).mono ?_;rintro e6 w6 ⟨rfl,hg6⟩;have R26:=Za (R25.out.grown hg6.out (fun e=>by injection e with e;have:=N5.out;omega))
           have HB6:=Za (p:=Below w.heap.size w w6) (HB5.out.grown hg6.out HB5.out.size (fun q hq=>by injection hq with hq;have:=N5.out;omega));clear hg6 HC5)
        | (refine step_alloc rfl 4 rfl 43 rfl _ hz.out ?_;intro g4 w4 hr4 hg4 hb4 hs4;have R4:=Za hr4
           have R24:=Za (R26.out.kept hb4);have HB4:=Za (below_nxt hb4 HB6.out);have N24:=Za (p:=g2<g4) (by rw [hg4.out];exact R26.out.lt);clear hr4 hb4 hg4 hs4)
        | (refine step_store rfl 43 (.tmp 4) (.tmp 14) rfl g4 (by rfl) _ (ncs ino0) (ncs (rd sz l)) (by rfl) R4.out rfl (i1.out _) (ncs_one _) ?_;intro w7 hr7 hg7 hs7;have R47:=Za hr7
           have R27:=Za (R24.out.grown hg7 (fun e=>by injection e with e;have:=N24.out;omega));have HB7:=Za (p:=Below w.heap.size w w7) (HB4.out.grown hg7 HB4.out.size (fun q hq=>by injection hq with hq;have:=N24.out;have:=Q2.out;omega));clear hr7 hg7 hs7)
        | (refine step_load rfl 16 rfl 43 (.tmp 4) rfl g4 rfl (ncs (rd sz l)) _ R47.out.all Yh rfl (i1.out _) ?_)
        | (go_at_call 30;refine (HP.out _).mono ?_;rintro e8 w8 ⟨rfl,hb8⟩;have R48:=Za (R47.out.kept hb8)
           have R28:=Za (R27.out.kept hb8);have HB8:=Za (below_nxt hb8 HB7.out);clear hb8)
        | (refine step_build rfl 43 #[] rfl [] ?hv _ built_ino0 ?_;case hv=>simp)
        | (refine step_store rfl 43 (.tmp 2) (.tmp 28) rfl g2 (by rfl) _ (ncs ino0) (ncs ino0) (by rfl) R28.out rfl (i1.out _) (ncs_one _) ?_;intro w9 hr9 hg9 hs9))
      refine Yd (results_row_tmp rfl _ _ g2 _ _ _ _ rfl hr9 Yh rfl (by simpa using i1.out ino0)) rfl ?_;exact ⟨by rw [iV_bad HU.out];rfl,HB8.out.grown hg9 HB8.out.size (fun q hq=>by injection hq with hq;subst hq;exact Q2.out)⟩
    · rw [hm, Bool.true_and] at hok;have HP:=Za (fun w=>pack_ok (rd sz l) hm (rd_wf l) w);cases he:decide (blk sz (rd sz l) 27=l)
      · rw [he] at hok;have HE:=Za he;have HU:=Za hok;clear hA hn hlen hok hm he;go_enter Tryz.func33,Tryz.ntmps33
        go_wp2_with (first
          | (refine step_alloc rfl 2 rfl 43 rfl _ hz.out ?_;intro g2 w2 hr2 hg2 hb2 hs2;have R2:=Za hr2
             have HB2:=Za hb2;have Q2:=Za (p:=w.heap.size≤g2) (by rw [hg2.out];exact Zj _);clear hr2 hb2 hg2 hs2)
          | (go_at_call 73;refine (HNew.out _ HB2.out).mono ?_;rintro e5 w5 ⟨g5,rfl,hq5,hc5,hb5⟩;have R25:=Za (R2.out.kept hb5)
             have HB5:=Za (HB2.out.trans (hb5.mono HB2.out.size));have N5:=Za (p:=g2<g5∧w.heap.size≤g5) ⟨Yc R2.out.lt hq5,Nat.le_trans HB2.out.size hq5⟩;have HC5:=Za hc5;clear hq5 hc5 hb5)
          | (go_at_call 72;refine (read_any g5 l _ HC5.out HL.out).mono ?_;rintro e6 w6 ⟨rfl,hg6⟩;have R26:=Za (R25.out.grown hg6.out (fun e=>by injection e with e;have:=N5.out;omega))
             have HB6:=Za (p:=Below w.heap.size w w6) (HB5.out.grown hg6.out HB5.out.size (fun q hq=>by injection hq with hq;have:=N5.out;omega));clear hg6 HC5)
          | (refine step_alloc rfl 4 rfl 43 rfl _ hz.out ?_;intro g4 w4 hr4 hg4 hb4 hs4;have R4:=Za hr4
             have R24:=Za (R26.out.kept hb4);have HB4:=Za (below_nxt hb4 HB6.out);have N24:=Za (p:=g2<g4) (by rw [hg4.out];exact R26.out.lt);clear hr4 hb4 hg4 hs4)
          | (refine step_store rfl 43 (.tmp 4) (.tmp 14) rfl g4 (by rfl) _ (ncs ino0) (ncs (rd sz l)) (by rfl) R4.out rfl (i1.out _) (ncs_one _) ?_;intro w7 hr7 hg7 hs7;have R47:=Za hr7
             have R27:=Za (R24.out.grown hg7 (fun e=>by injection e with e;have:=N24.out;omega));have HB7:=Za (p:=Below w.heap.size w w7) (HB4.out.grown hg7 HB4.out.size (fun q hq=>by injection hq with hq;have:=N24.out;have:=Q2.out;omega));clear hr7 hg7 hs7)
          | (refine step_load rfl 16 rfl 43 (.tmp 4) rfl g4 rfl (ncs (rd sz l)) _ R47.out.all Yh rfl (i1.out _) ?_)
          | (go_at_call 30;refine (HP.out _).mono ?_;rintro e8 w8 ⟨A8,c8,rfl,ho8,hb8⟩;have R48:=Za (R47.out.kept hb8.out)
             have R28:=Za (R27.out.kept hb8.out);have HB8:=Za (below_nxt hb8.out HB7.out);have HH8:=Za (Hol.own ho8.out);clear hb8 ho8)
          | (go_at_call 75;refine (bequal_any A8 A 256 256 c8 c (blk sz (rd sz l) 27) l (blk_len sz _ 27 (by decide)).symm HL.out.symm _ HH8.out (HA.out.below HB8.out)).mono ?_;rintro e9 w9 ⟨rfl,hw9⟩;obtain rfl:=hw9.symm;rw [HE.out])
          | (refine step_build rfl 43 #[] rfl [] ?hv _ built_ino0 ?_;case hv=>simp)
          | (refine step_store rfl 43 (.tmp 2) (.tmp 28) rfl g2 (by rfl) _ (ncs ino0) (ncs ino0) (by rfl) R28.out rfl (i1.out _) (ncs_one _) ?_;intro w9 hr9 hg9 hs9))
        refine Yd (results_row_tmp rfl _ _ g2 _ _ _ _ rfl hr9 Yh rfl (by simpa using i1.out ino0)) rfl ?_;exact ⟨by rw [iV_bad HU.out];rfl,HB8.out.grown hg9 HB8.out.size (fun q hq=>by injection hq with hq;subst hq;exact Q2.out)⟩
      · rw [he] at hok;have HE:=Za he;have HU:=Za hok;clear hA hn hlen hok hm he;go_enter Tryz.func33,Tryz.ntmps33
        go_wp2_with (first
          | (refine step_alloc rfl 2 rfl 43 rfl _ hz.out ?_;intro g2 w2 hr2 hg2 hb2 hs2;have R2:=Za hr2
             have HB2:=Za hb2;have Q2:=Za (p:=w.heap.size≤g2) (by rw [hg2.out];exact Zj _);clear hr2 hb2 hg2 hs2)
          | (go_at_call 73;refine (HNew.out _ HB2.out).mono ?_;rintro e5 w5 ⟨g5,rfl,hq5,hc5,hb5⟩;have R25:=Za (R2.out.kept hb5)
             have HB5:=Za (HB2.out.trans (hb5.mono HB2.out.size));have N5:=Za (p:=g2<g5∧w.heap.size≤g5) ⟨Yc R2.out.lt hq5,Nat.le_trans HB2.out.size hq5⟩;have HC5:=Za hc5;clear hq5 hc5 hb5)
          | (go_at_call 72;refine (read_any g5 l _ HC5.out HL.out).mono ?_;rintro e6 w6 ⟨rfl,hg6⟩;have R26:=Za (R25.out.grown hg6.out (fun e=>by injection e with e;have:=N5.out;omega))
             have HB6:=Za (p:=Below w.heap.size w w6) (HB5.out.grown hg6.out HB5.out.size (fun q hq=>by injection hq with hq;have:=N5.out;omega));clear hg6 HC5)
          | (refine step_alloc rfl 4 rfl 43 rfl _ hz.out ?_;intro g4 w4 hr4 hg4 hb4 hs4;have R4:=Za hr4
             have R24:=Za (R26.out.kept hb4);have HB4:=Za (below_nxt hb4 HB6.out);have N24:=Za (p:=g2<g4) (by rw [hg4.out];exact R26.out.lt);clear hr4 hb4 hg4 hs4)
          | (refine step_store rfl 43 (.tmp 4) (.tmp 14) rfl g4 (by rfl) _ (ncs ino0) (ncs (rd sz l)) (by rfl) R4.out rfl (i1.out _) (ncs_one _) ?_;intro w7 hr7 hg7 hs7;have R47:=Za hr7
             have R27:=Za (R24.out.grown hg7 (fun e=>by injection e with e;have:=N24.out;omega));have HB7:=Za (p:=Below w.heap.size w w7) (HB4.out.grown hg7 HB4.out.size (fun q hq=>by injection hq with hq;have:=N24.out;have:=Q2.out;omega));clear hr7 hg7 hs7)
          | (refine step_load rfl 16 rfl 43 (.tmp 4) rfl g4 rfl (ncs (rd sz l)) _ R47.out.all Yh rfl (i1.out _) ?_)
          | (go_at_call 30;refine (HP.out _).mono ?_;rintro e8 w8 ⟨A8,c8,rfl,ho8,hb8⟩;have R48:=Za (R47.out.kept hb8.out)
             have R28:=Za (R27.out.kept hb8.out);have HB8:=Za (below_nxt hb8.out HB7.out);have HH8:=Za (Hol.own ho8.out);clear hb8 ho8)
          | (go_at_call 75;refine (bequal_any A8 A 256 256 c8 c (blk sz (rd sz l) 27) l (blk_len sz _ 27 (by decide)).symm HL.out.symm _ HH8.out (HA.out.below HB8.out)).mono ?_;rintro e9 w9 ⟨rfl,hw9⟩;obtain rfl:=hw9.symm;rw [HE.out])
          | (refine step_load rfl 29 rfl 43 (.tmp 4) rfl g4 rfl (ncs (rd sz l)) _ R48.out.all Yh rfl (i1.out _) ?_)
          | (refine step_store rfl 43 (.tmp 2) (.tmp 29) rfl g2 (by rfl) _ (ncs ino0) (ncs (rd sz l)) (by rfl) R28.out rfl (i1.out _) (ncs_one _) ?_;intro w9 hr9 hg9 hs9))
        refine Yd (results_row_tmp rfl _ _ g2 _ _ _ _ rfl hr9 Yh rfl (by simpa using i1.out (rd sz l))) rfl ?_;exact ⟨by rw [iV_ok HU.out];rfl,HB8.out.grown hg9 HB8.out.size (fun q hq=>by injection hq with hq;subst hq;exact Q2.out)⟩
  · have HU:=Za (p:=iOk l=false) (by unfold iOk;rw [decide_eq_false (by omega),Bool.false_and]);have hne:((n:Int) !=256)=true:=by simp;omega
    have hlen':(n:Int)≤9223372036854775807:=by omega
    clear hA hn hlen h256;go_enter Tryz.func33,Tryz.ntmps33
    go_wp2_with (first
      | (refine step_alloc rfl 2 rfl 43 rfl _ hz.out ?_;intro g2 w2 hr2 hg2 hb2 hs2;have R2:=Za hr2
         have HB2:=Za hb2;have Q2:=Za (p:=w.heap.size≤g2) (by rw [hg2.out];exact Zj _);clear hr2 hb2 hg2 hs2)
      | (refine step_build rfl 43 #[] rfl [] ?hv _ built_ino0 ?_;case hv=>simp)
      | (refine step_store rfl 43 (.tmp 2) (.tmp 10) rfl g2 (by rfl) _ (ncs ino0) (ncs ino0) (by rfl) R2.out rfl (i1.out _) (ncs_one _) ?_;intro w9 hr9 hg9 hs9))
    refine Yd (results_row_tmp rfl _ _ g2 _ _ _ _ rfl hr9 Yh rfl (by simpa using i1.out ino0)) rfl ?_;exact ⟨by rw [iV_bad HU.out];rfl,HB2.out.grown hg9 HB2.out.size (fun q hq=>by injection hq with hq;subst hq;exact Q2.out)⟩
/- Package inode:the list of a block,or none;how many blocks a size goes through. Conditions:those named. -/
def upL (L:List UInt8) (k j:Nat):Int:=if j<k then rd s2 L j else 0
theorem upL_zero (L:List UInt8):inl 112 (upL L 0)=inl 112 ino0:=inl_congr fun j _=>by unfold upL;rw [if_neg (by omega)];rfl
theorem upL_all (L:List UInt8):inl 112 (upL L 112)=inl 112 (rd s2 L):=inl_congr fun j hj=>by unfold upL;rw [if_pos hj]
theorem upL_step (L:List UInt8) (k:Nat) (hk:k<112):(inl 112 (upL L k)).set k (.int .i64 (rd s2 L k))=inl 112 (upL L (k+1)):=by
  rw [inl_set _ _ hk];refine inl_congr fun j _=>?_;unfold at1 upL;by_cases h:j=k
  · subst h;rw [if_pos rfl,if_pos (by omega)]
  · rw [if_neg h];by_cases h2:j<k
    · rw [if_pos h2,if_pos (by omega)]
    · rw [if_neg h2,if_neg (by omega)]
def lOk (l:List UInt8):Bool:=decide (l.length=256) && (slotB (rd s2 l) 112 && decide (blk s2 (rd s2 l) 112=l))
def lV (l:List UInt8):Value:=.tuple #[.agg (inl 112 (if lOk l=true then rd s2 l else ino0)).toArray,.int .i64 (if lOk l=true then 0 else 210)]
theorem lV_bad {l:List UInt8} (h:lOk l=false):lV l=.tuple #[.agg (inl 112 ino0).toArray,.int .i64 210]:=by unfold lV;rw [h];rfl
theorem lV_ok {l:List UInt8} (h:lOk l=true):lV l=.tuple #[.agg (inl 112 (rd s2 l)).toArray,.int .i64 0]:=by unfold lV;rw [h];rfl
theorem l112_u8:146≠5:=by decide
theorem unpacklist_any (A:Option Addr) (n c:Nat) (l:List UInt8) (hn:l.length=n) (hlen:n<9223372036854775808) (w:World) (hA:Hol w A l):
    Calls Tryz.prog 86 #[.slice A n c] w fun e w'=>e=.returned (lV l)∧Below w.heap.size w w':=by
  have i1:=Za (fun f=>info_inl f);have hz:=Za zero_112;by_cases h256:n=256
  · subst h256
    have HNew:Hid (∀ w',Below w.heap.size w w'→Calls Tryz.prog 73 #[.slice A 256 c] w' fun e w''=>∃ g,e=.returned (.pointer (some ⟨g,0,none⟩))∧w'.heap.size≤g∧Cur w'' g l false∧Below w'.heap.size w' w''):=fun w' hb=>by
      have h:=cur_new_any A c l w' (hA.below hb) (by omega);rwa [hn] at h
    have HA:=Za hA;have HL:=Za hn;have hok:lOk l=(slotB (rd s2 l) 112 && decide (blk s2 (rd s2 l) 112=l)):=by unfold lOk;rw [decide_eq_true hn,Bool.true_and]
    cases hm:slotB (rd s2 l) 112
    · rw [hm,Bool.false_and] at hok;have HU:=Za hok;have HP:=Za (fun w=>packlist_not (rd s2 l) hm w);clear hA hn hlen hok hm;go_enter Tryz.func86,Tryz.ntmps86
      go_wp2_with (first
        | (refine step_alloc rfl 2 rfl 146 rfl _ hz.out ?_;intro g2 w2 hr2 hg2 hb2 hs2;have R2:=Za hr2
           have HB2:=Za hb2;have Q2:=Za (p:=w.heap.size≤g2) (by rw [hg2.out];exact Zj _);clear hr2 hb2 hg2 hs2)
        | (refine step_alloc rfl 4 rfl 146 rfl _ hz.out ?_;intro g4 w4 hr4 hg4 hb4 hs4;have R4:=Za hr4
           have R24:=Za (R2.out.kept hb4);have HB4:=Za (below_nxt hb4 HB2.out);have N24:=Za (p:=g2<g4) (by rw [hg4.out];exact R2.out.lt);clear hr4 hb4 hg4 hs4))
      refine Zq (S:=fun _=>True) (by kernel_rfl) trivial (fun hHeld=>?_);refine Ze (i:=0) (oi:=⟨some 11,.move (.tmp 0),_,_,_,_⟩) (v:=.slice A 256 c) rfl (by kernel_rfl) (by kernel_rfl) (by kernel_rfl) (fun _ _ _ h=>h) (.inl ⟨by rfl,fun w hSw=>by go_simp⟩) (by assumption) ?_;simp only [Act.put,Zb,Zc,Zd];refine Ze (i:=3) (oi:=⟨some 14,.slice 146 (.tmp 4) none none none,_,_,_,_⟩) (v:=.slice (some ⟨g4,0,none⟩) 112 112) rfl (by kernel_rfl) (by kernel_rfl) (by kernel_rfl) (fun _ _ _ h=>h) (.inl ⟨by rfl,fun w hSw=>by go_simp⟩) (by assumption) ?_;simp only [Act.put,Zb,Zc,Zd];refine Zp (rs:=[1]) (by kernel_rfl) (by simp) ?_;refine Zl (o:=⟨some 12,.call ⟨.value (.func 73),#[.tmp 11],_⟩,_,_,_,_⟩) rfl (fun K hK=>?_) Zo;go_simp;refine (HNew.out _ HB4.out.drew).mono ?_;rintro e5 w5 ⟨g5,rfl,hq5,hc5,hb5⟩;have R45:=Za (p:=Row w5 g4 146 (inl 112 (upL l 0))) (by rw [upL_zero];exact R4.out.drew.kept hb5);have R25:=Za (R24.out.drew.kept hb5);have HB5:=Za (HB4.out.drew.trans (hb5.mono HB4.out.drew.size));have N5:=Za (p:=g4<g5) (Yc R4.out.drew.lt hq5);have HC5:=Za hc5;clear hq5 hc5 hb5;refine hK.out _ _ trivial (fun hH2=>?_);clear hK K;refine Ze (i:=2) (oi:=⟨some 13,.makeFunc (.func 74) #[.tmp 12] #[],_,_,_,_⟩) (v:=.func (.func 74) #[.pointer (some ⟨g5,0,none⟩)] #[]) rfl (by kernel_rfl) (by kernel_rfl) (by kernel_rfl) (fun _ _ _ h=>h) (.inl ⟨by rfl,fun w hSw=>by go_simp⟩) (by assumption) ?_;simp only [Act.put,Zb,Zc,Zd];refine Zp (rs:=[4]) (by kernel_rfl) (by simp) ?_;refine Zl (o:=⟨some 15,.call ⟨.value (.func 109),#[.tmp 13,.tmp 14],_⟩,_,_,_,_⟩) rfl (fun K hK=>?_) Zo;go_simp;refine (readslots_any g5 g4 (by have:=N5.out;omega) l 0 112 112 146 l112_u8 (fun j=>inl 112 (upL l j)) ?hC ?hz (by omega) (by rw [HL.out];decide) (by rw [HL.out];decide) _ HC5.out R45.out).mono ?_
      case hC=>
        intro k hk;rw [Nat.zero_add];refine Eq.trans ?_ (upL_step l k hk);unfold rd rdn;rw [off_s2];rfl
      case hz=>exact fun k hk=>⟨_,by rw [Nat.zero_add];exact inl_get _ hk⟩
      rintro e w7 ⟨rfl,_,hr7,ht7⟩;have R47:=Za (p:=Row w7 g4 146 (inl 112 (rd s2 l))) (by rw [← upL_all];exact hr7.out);have R27:=Za (ht7.out.row R25.out (by have:=N5.out;have:=N24.out;omega) (by have:=N24.out;omega));have HB7:=Za (p:=Below w.heap.size w w7) (ht7.out.below HB5.out HB5.out.size (by have:=N5.out;have:=N24.out;have:=Q2.out;omega) (by have:=N24.out;have:=Q2.out;omega));clear hr7 ht7 HC5 R45 R25 HB5;refine hK.out _ _ trivial (fun hH3=>?_);clear hK K;refine Yg (by kernel_rfl) ?_ _
      go_wp2_with (first
        | (refine step_load rfl 17 rfl 146 (.tmp 4) rfl g4 rfl (inl 112 (rd s2 l)) _ R47.out.all Tryz.underlying146 rfl (i1.out _) ?_)
        | (go_at_call 89;refine (HP.out _).mono ?_;rintro e8 w8 ⟨rfl,hb8⟩;have R48:=Za (R47.out.kept hb8)
           have R28:=Za (R27.out.kept hb8);have HB8:=Za (below_nxt hb8 HB7.out);clear hb8)
        | (refine step_build rfl 146 #[] rfl [] ?hv _ built_112 ?_;case hv=>simp)
        | (refine step_store rfl 146 (.tmp 2) (.tmp 29) rfl g2 (by rfl) _ (inl 112 ino0) (inl 112 ino0) (by rfl) R28.out rfl (i1.out _) (inl_one _ _) ?_;intro w9 hr9 hg9 hs9))
      refine Yd (results_row_tmp rfl _ _ g2 _ _ _ _ rfl hr9 Tryz.underlying146 rfl (by simpa using i1.out ino0)) rfl ?_;exact ⟨by rw [lV_bad HU.out];rfl,HB8.out.grown hg9 HB8.out.size (fun q hq=>by injection hq with hq;subst hq;exact Q2.out)⟩
    · rw [hm, Bool.true_and] at hok;have HP:=Za (fun w=>packlist_ok (rd s2 l) hm w);cases he:decide (blk s2 (rd s2 l) 112=l)
      · rw [he] at hok;have HE:=Za he;have HU:=Za hok;clear hA hn hlen hok hm he;go_enter Tryz.func86,Tryz.ntmps86
        go_wp2_with (first
          | (refine step_alloc rfl 2 rfl 146 rfl _ hz.out ?_;intro g2 w2 hr2 hg2 hb2 hs2;have R2:=Za hr2
             have HB2:=Za hb2;have Q2:=Za (p:=w.heap.size≤g2) (by rw [hg2.out];exact Zj _);clear hr2 hb2 hg2 hs2)
          | (refine step_alloc rfl 4 rfl 146 rfl _ hz.out ?_;intro g4 w4 hr4 hg4 hb4 hs4;have R4:=Za hr4
             have R24:=Za (R2.out.kept hb4);have HB4:=Za (below_nxt hb4 HB2.out);have N24:=Za (p:=g2<g4) (by rw [hg4.out];exact R2.out.lt);clear hr4 hb4 hg4 hs4))
        refine Zq (S:=fun _=>True) (by kernel_rfl) trivial (fun hHeld=>?_);refine Ze (i:=0) (oi:=⟨some 11,.move (.tmp 0),_,_,_,_⟩) (v:=.slice A 256 c) rfl (by kernel_rfl) (by kernel_rfl) (by kernel_rfl) (fun _ _ _ h=>h) (.inl ⟨by rfl,fun w hSw=>by go_simp⟩) (by assumption) ?_;simp only [Act.put,Zb,Zc,Zd];refine Ze (i:=3) (oi:=⟨some 14,.slice 146 (.tmp 4) none none none,_,_,_,_⟩) (v:=.slice (some ⟨g4,0,none⟩) 112 112) rfl (by kernel_rfl) (by kernel_rfl) (by kernel_rfl) (fun _ _ _ h=>h) (.inl ⟨by rfl,fun w hSw=>by go_simp⟩) (by assumption) ?_;simp only [Act.put,Zb,Zc,Zd];refine Zp (rs:=[1]) (by kernel_rfl) (by simp) ?_;refine Zl (o:=⟨some 12,.call ⟨.value (.func 73),#[.tmp 11],_⟩,_,_,_,_⟩) rfl (fun K hK=>?_) Zo;go_simp;refine (HNew.out _ HB4.out.drew).mono ?_;rintro e5 w5 ⟨g5,rfl,hq5,hc5,hb5⟩;have R45:=Za (p:=Row w5 g4 146 (inl 112 (upL l 0))) (by rw [upL_zero];exact R4.out.drew.kept hb5);have R25:=Za (R24.out.drew.kept hb5);have HB5:=Za (HB4.out.drew.trans (hb5.mono HB4.out.drew.size));have N5:=Za (p:=g4<g5) (Yc R4.out.drew.lt hq5);have HC5:=Za hc5;clear hq5 hc5 hb5;refine hK.out _ _ trivial (fun hH2=>?_);clear hK K;refine Ze (i:=2) (oi:=⟨some 13,.makeFunc (.func 74) #[.tmp 12] #[],_,_,_,_⟩) (v:=.func (.func 74) #[.pointer (some ⟨g5,0,none⟩)] #[]) rfl (by kernel_rfl) (by kernel_rfl) (by kernel_rfl) (fun _ _ _ h=>h) (.inl ⟨by rfl,fun w hSw=>by go_simp⟩) (by assumption) ?_;simp only [Act.put,Zb,Zc,Zd];refine Zp (rs:=[4]) (by kernel_rfl) (by simp) ?_;refine Zl (o:=⟨some 15,.call ⟨.value (.func 109),#[.tmp 13,.tmp 14],_⟩,_,_,_,_⟩) rfl (fun K hK=>?_) Zo;go_simp;refine (readslots_any g5 g4 (by have:=N5.out;omega) l 0 112 112 146 l112_u8 (fun j=>inl 112 (upL l j)) ?hC ?hz (by omega) (by rw [HL.out];decide) (by rw [HL.out];decide) _ HC5.out R45.out).mono ?_
        case hC=>
          intro k hk;rw [Nat.zero_add];refine Eq.trans ?_ (upL_step l k hk);unfold rd rdn;rw [off_s2];rfl
        case hz=>exact fun k hk=>⟨_,by rw [Nat.zero_add];exact inl_get _ hk⟩
        rintro e w7 ⟨rfl,_,hr7,ht7⟩;have R47:=Za (p:=Row w7 g4 146 (inl 112 (rd s2 l))) (by rw [← upL_all];exact hr7.out);have R27:=Za (ht7.out.row R25.out (by have:=N5.out;have:=N24.out;omega) (by have:=N24.out;omega));have HB7:=Za (p:=Below w.heap.size w w7) (ht7.out.below HB5.out HB5.out.size (by have:=N5.out;have:=N24.out;have:=Q2.out;omega) (by have:=N24.out;have:=Q2.out;omega));clear hr7 ht7 HC5 R45 R25 HB5;refine hK.out _ _ trivial (fun hH3=>?_);clear hK K;refine Yg (by kernel_rfl) ?_ _
        go_wp2_with (first
          | (refine step_load rfl 17 rfl 146 (.tmp 4) rfl g4 rfl (inl 112 (rd s2 l)) _ R47.out.all Tryz.underlying146 rfl (i1.out _) ?_)
          | (go_at_call 89;refine (HP.out _).mono ?_;rintro e8 w8 ⟨A8,c8,rfl,ho8,hb8⟩;have R48:=Za (R47.out.kept hb8.out)
             have R28:=Za (R27.out.kept hb8.out);have HB8:=Za (below_nxt hb8.out HB7.out);have HH8:=Za (Hol.own ho8.out);clear hb8 ho8)
          | (go_at_call 75;refine (bequal_any A8 A 256 256 c8 c (blk s2 (rd s2 l) 112) l (blk_len s2 _ 112 (by decide)).symm HL.out.symm _ HH8.out (HA.out.below HB8.out)).mono ?_;rintro e9 w9 ⟨rfl,hw9⟩;obtain rfl:=hw9.symm;rw [HE.out])
          | (refine step_build rfl 146 #[] rfl [] ?hv _ built_112 ?_;case hv=>simp)
          | (refine step_store rfl 146 (.tmp 2) (.tmp 29) rfl g2 (by rfl) _ (inl 112 ino0) (inl 112 ino0) (by rfl) R28.out rfl (i1.out _) (inl_one _ _) ?_;intro w9 hr9 hg9 hs9))
        refine Yd (results_row_tmp rfl _ _ g2 _ _ _ _ rfl hr9 Tryz.underlying146 rfl (by simpa using i1.out ino0)) rfl ?_;exact ⟨by rw [lV_bad HU.out];rfl,HB8.out.grown hg9 HB8.out.size (fun q hq=>by injection hq with hq;subst hq;exact Q2.out)⟩
      · rw [he] at hok;have HE:=Za he;have HU:=Za hok;clear hA hn hlen hok hm he;go_enter Tryz.func86,Tryz.ntmps86
        go_wp2_with (first
          | (refine step_alloc rfl 2 rfl 146 rfl _ hz.out ?_;intro g2 w2 hr2 hg2 hb2 hs2;have R2:=Za hr2
             have HB2:=Za hb2;have Q2:=Za (p:=w.heap.size≤g2) (by rw [hg2.out];exact Zj _);clear hr2 hb2 hg2 hs2)
          | (refine step_alloc rfl 4 rfl 146 rfl _ hz.out ?_;intro g4 w4 hr4 hg4 hb4 hs4;have R4:=Za hr4
             have R24:=Za (R2.out.kept hb4);have HB4:=Za (below_nxt hb4 HB2.out);have N24:=Za (p:=g2<g4) (by rw [hg4.out];exact R2.out.lt);clear hr4 hb4 hg4 hs4))
        refine Zq (S:=fun _=>True) (by kernel_rfl) trivial (fun hHeld=>?_);refine Ze (i:=0) (oi:=⟨some 11,.move (.tmp 0),_,_,_,_⟩) (v:=.slice A 256 c) rfl (by kernel_rfl) (by kernel_rfl) (by kernel_rfl) (fun _ _ _ h=>h) (.inl ⟨by rfl,fun w hSw=>by go_simp⟩) (by assumption) ?_;simp only [Act.put,Zb,Zc,Zd];refine Ze (i:=3) (oi:=⟨some 14,.slice 146 (.tmp 4) none none none,_,_,_,_⟩) (v:=.slice (some ⟨g4,0,none⟩) 112 112) rfl (by kernel_rfl) (by kernel_rfl) (by kernel_rfl) (fun _ _ _ h=>h) (.inl ⟨by rfl,fun w hSw=>by go_simp⟩) (by assumption) ?_;simp only [Act.put,Zb,Zc,Zd];refine Zp (rs:=[1]) (by kernel_rfl) (by simp) ?_;refine Zl (o:=⟨some 12,.call ⟨.value (.func 73),#[.tmp 11],_⟩,_,_,_,_⟩) rfl (fun K hK=>?_) Zo;go_simp;refine (HNew.out _ HB4.out.drew).mono ?_;rintro e5 w5 ⟨g5,rfl,hq5,hc5,hb5⟩;have R45:=Za (p:=Row w5 g4 146 (inl 112 (upL l 0))) (by rw [upL_zero];exact R4.out.drew.kept hb5);have R25:=Za (R24.out.drew.kept hb5);have HB5:=Za (HB4.out.drew.trans (hb5.mono HB4.out.drew.size));have N5:=Za (p:=g4<g5) (Yc R4.out.drew.lt hq5);have HC5:=Za hc5;clear hq5 hc5 hb5;refine hK.out _ _ trivial (fun hH2=>?_);clear hK K;refine Ze (i:=2) (oi:=⟨some 13,.makeFunc (.func 74) #[.tmp 12] #[],_,_,_,_⟩) (v:=.func (.func 74) #[.pointer (some ⟨g5,0,none⟩)] #[]) rfl (by kernel_rfl) (by kernel_rfl) (by kernel_rfl) (fun _ _ _ h=>h) (.inl ⟨by rfl,fun w hSw=>by go_simp⟩) (by assumption) ?_;simp only [Act.put,Zb,Zc,Zd];refine Zp (rs:=[4]) (by kernel_rfl) (by simp) ?_;refine Zl (o:=⟨some 15,.call ⟨.value (.func 109),#[.tmp 13,.tmp 14],_⟩,_,_,_,_⟩) rfl (fun K hK=>?_) Zo;go_simp;refine (readslots_any g5 g4 (by have:=N5.out;omega) l 0 112 112 146 l112_u8 (fun j=>inl 112 (upL l j)) ?hC ?hz (by omega) (by rw [HL.out];decide) (by rw [HL.out];decide) _ HC5.out R45.out).mono ?_
        case hC=>
          intro k hk;rw [Nat.zero_add];refine Eq.trans ?_ (upL_step l k hk);unfold rd rdn;rw [off_s2];rfl
        case hz=>exact fun k hk=>⟨_,by rw [Nat.zero_add];exact inl_get _ hk⟩
        rintro e w7 ⟨rfl,_,hr7,ht7⟩;have R47:=Za (p:=Row w7 g4 146 (inl 112 (rd s2 l))) (by rw [← upL_all];exact hr7.out);have R27:=Za (ht7.out.row R25.out (by have:=N5.out;have:=N24.out;omega) (by have:=N24.out;omega));have HB7:=Za (p:=Below w.heap.size w w7) (ht7.out.below HB5.out HB5.out.size (by have:=N5.out;have:=N24.out;have:=Q2.out;omega) (by have:=N24.out;have:=Q2.out;omega));clear hr7 ht7 HC5 R45 R25 HB5;refine hK.out _ _ trivial (fun hH3=>?_);clear hK K;refine Yg (by kernel_rfl) ?_ _
        go_wp2_with (first
          | (refine step_load rfl 17 rfl 146 (.tmp 4) rfl g4 rfl (inl 112 (rd s2 l)) _ R47.out.all Tryz.underlying146 rfl (i1.out _) ?_)
          | (go_at_call 89;refine (HP.out _).mono ?_;rintro e8 w8 ⟨A8,c8,rfl,ho8,hb8⟩;have R48:=Za (R47.out.kept hb8.out)
             have R28:=Za (R27.out.kept hb8.out);have HB8:=Za (below_nxt hb8.out HB7.out);have HH8:=Za (Hol.own ho8.out);clear hb8 ho8)
          | (go_at_call 75;refine (bequal_any A8 A 256 256 c8 c (blk s2 (rd s2 l) 112) l (blk_len s2 _ 112 (by decide)).symm HL.out.symm _ HH8.out (HA.out.below HB8.out)).mono ?_;rintro e9 w9 ⟨rfl,hw9⟩;obtain rfl:=hw9.symm;rw [HE.out])
          | (refine step_load rfl 30 rfl 146 (.tmp 4) rfl g4 rfl (inl 112 (rd s2 l)) _ R48.out.all Tryz.underlying146 rfl (i1.out _) ?_)
          | (refine step_store rfl 146 (.tmp 2) (.tmp 30) rfl g2 (by rfl) _ (inl 112 ino0) (inl 112 (rd s2 l)) (by rfl) R28.out (by rw [inl_len,inl_len]) (i1.out _) (inl_one _ _) ?_;intro w9 hr9 hg9 hs9))
        refine Yd (results_row_tmp rfl _ _ g2 _ _ _ _ rfl hr9 Tryz.underlying146 rfl (by simpa using i1.out (rd s2 l))) rfl ?_;exact ⟨by rw [lV_ok HU.out];rfl,HB8.out.grown hg9 HB8.out.size (fun q hq=>by injection hq with hq;subst hq;exact Q2.out)⟩
  · have HU:=Za (p:=lOk l=false) (by unfold lOk;rw [decide_eq_false (by omega),Bool.false_and]);have hne:((n:Int) !=256)=true:=by simp;omega
    have hlen':(n:Int)≤9223372036854775807:=by omega
    clear hA hn hlen h256;go_enter Tryz.func86,Tryz.ntmps86
    go_wp2_with (first
      | (refine step_alloc rfl 2 rfl 146 rfl _ hz.out ?_;intro g2 w2 hr2 hg2 hb2 hs2;have R2:=Za hr2
         have HB2:=Za hb2;have Q2:=Za (p:=w.heap.size≤g2) (by rw [hg2.out];exact Zj _);clear hr2 hb2 hg2 hs2)
      | (refine step_build rfl 146 #[] rfl [] ?hv _ built_112 ?_;case hv=>simp)
      | (refine step_store rfl 146 (.tmp 2) (.tmp 10) rfl g2 (by rfl) _ (inl 112 ino0) (inl 112 ino0) (by rfl) R2.out rfl (i1.out _) (inl_one _ _) ?_;intro w9 hr9 hg9 hs9))
    refine Yd (results_row_tmp rfl _ _ g2 _ _ _ _ rfl hr9 Tryz.underlying146 rfl (by simpa using i1.out ino0)) rfl ?_;exact ⟨by rw [lV_bad HU.out];rfl,HB2.out.grown hg9 HB2.out.size (fun q hq=>by injection hq with hq;subst hq;exact Q2.out)⟩
end Go.Proofs.YtijffkklhgnknaaGreatDoor
