/- A desk's book, read; its super, told, set and saved. Conditions: the desk lies there. -/
import Derived.Test.YtijffkklhgnknaaGreatDoorAz
import Derived.Test.YtijffkklhgnknaaGreatDoorMgDa
import Derived.Test.YtijffkklhgnknaaGreatDoorMgChg
set_option maxHeartbeats 20000000
set_option linter.unusedVariables false
set_option maxRecDepth 20000
namespace Go.Proofs.YtijffkklhgnknaaGreatDoor
open Go.RowKit
def ldS (L:L8) (S:Sup):Prop:=(¬ SOk L∧S=supN)∨(SOk L∧S.cs=(sr L).cs)
def DX.loaded (X:DX) (S:Sup):DX:=⟨true,S,S,X.C⟩
def LdR (Bs:List BV) (X X':DX):Prop:=(X.rd=true∧X'=X)∨(X.rd=false∧∃ l S,seeX X Bs 0=some l∧l.length≤3000∧ldS (norm l) S∧X'=X.loaded S)
theorem LdR.rd {Bs:List BV} {X X':DX} (h:LdR Bs X X'):X'.rd=true:=by
  rcases h with ⟨h1,rfl⟩ | ⟨_,_,S,_,_,_,rfl⟩
  · exact h1
  · rfl
theorem LdR.C {Bs:List BV} {X X':DX} (h:LdR Bs X X'):X'.C=X.C:=by
  rcases h with ⟨h1,rfl⟩ | ⟨_,_,S,_,_,_,rfl⟩ <;> rfl
theorem norm_len {l:L8} (h:l.length≤3000):(norm l).length≤3000:=by
  unfold norm
  split
  · simp
  · exact h
section
variable {b:Nat} {w w':World} {gd gv gm gs r:Nat} {Bs:List BV} {N n:Nat} {X:DX}
def DOne (b:Nat) (w:World) (gd gv gm gs r:Nat) (Bs:List BV) (N n:Nat) (X:DX) (v:Value) (e:Ending) (w':World):Prop:=
  e=.returned v∧Hid (DK b w' gd gv gm gs r Bs N n X)∧Hid (Chg [gd] w w')
def tup0:Value:=.tuple #[]
theorem dload_have (h:DK b w gd gv gm gs r Bs N n X) (hr:X.rd=true):Calls Tryz.prog 28 #[.pointer (some ⟨gd,0,none⟩)] w (DOne b w gd gv gm gs r Bs N n X tup0):=by
  obtain ⟨ah,la,e1,e2,hd⟩:=h.desk;have c2:w.cell? ⟨gd,2,none⟩=some (.bool true):=by rw [hd.cell,dcs_2,hr]
  have H:=Za h;clear h hd e1 e2 hr;go_enter Tryz.func28,Tryz.ntmps28;go_wp2;go_end0;exact ⟨rfl,H,Za (Chg.refl _ _)⟩
theorem dload_ok (h:DK b w gd gv gm gs r Bs N n X) (hr:X.rd=false) (l:L8) (hl:seeX X Bs 0=some l) (hlen:l.length≤3000) (S:Sup) (hS:SOk (norm l)∧S.cs=(sr (norm l)).cs):Calls Tryz.prog 28 #[.pointer (some ⟨gd,0,none⟩)] w (DOne b w gd gv gm gs r Bs N n (X.loaded S) tup0):=by
  obtain ⟨ah,la,e1,e2,hd⟩:=h.desk;have c2:w.cell? ⟨gd,2,none⟩=some (.bool false):=by rw [hd.cell,dcs_2,hr]
  have HS:=Za (dsee h 0 (by unfold I64;omega) l hl hlen)
  have HU:=Za (p:=∀ (y:BV) (W:World),y.l=norm l→Hol W y.A y.l→Calls Tryz.prog 63 #[.slice y.A y.l.length y.c] W fun e w'=>e=.returned (.tuple #[.agg S.cs.toArray,.int .i64 0])∧Below W.heap.size W w') (fun y W hy hh=>by
      have e:=hS.1.1;rw [hS.2];rw [hy] at hh ⊢;rw [e];exact gunpack_ok y.A y.c (norm l) hS.1 W hh)
  have i1:=Za (fun x:Sup=>info_cs x);have i2:=Za info_bkcs;have hz:=Za zero_sup;have HBB:=Za built_book;have HNE:=Za h.ne;clear h hd hl hlen hS e1 e2 hr;go_enter Tryz.func28,Tryz.ntmps28
  go_wp2_with (first
    | (go_at_call 34;refine HS.out.mono ?_;rintro e w2 ⟨y,rfl,hy,ho,hk,hc⟩;have HK2:=hk
       have HC2:=hc;have HU2:=Za (HU.out y w2 hy.out ho.out.hol);clear hy ho hk hc c2)
    | (go_at_call 63;refine HU2.out.mono ?_;rintro e w3 ⟨rfl,hb⟩;have HB3:=Za hb
       clear hb)
    | (refine step_alloc rfl 2 rfl 76 rfl _ hz.out ?_;intro g4 w4 hr4 hg4 hb4 hs4;have HR4:=Za hr4
       have HB4:=Za (below_nxt hb4 HB3.out);have HG4:=Za (p:=w2.heap.size≤g4) (by rw [hg4.out];exact HB3.out.size);clear hr4 hg4 hb4 hs4)
    | (refine step_store rfl 76 (.tmp 2) (.tmp 13) rfl g4 rfl _ _ S.cs rfl HR4.out (by simp [Sup.cs_len]) (i1.out _) (Sup.cs_one _) ?_;intro w5 hr5 hg5 hs5;have HR5:=Za hr5
       have HB5:=Za (below_own HB4.out hg5 HG4.out);clear hr5 hg5 hs5 HR4)
    | (refine step_load rfl 19 rfl 76 (.tmp 2) rfl g4 rfl S.cs _ HR5.out.all Yj rfl (i1.out _) ?_)
    | (refine step_load rfl 20 rfl 76 (.tmp 2) rfl g4 rfl S.cs _ HR5.out.all Yj rfl (i1.out _) ?_)
    | (refine step_build rfl 78 _ rfl [(0,.bool true),(1,.agg S.cs.toArray),(2,.agg S.cs.toArray)] ?hv _ (HBB.out _ _) ?_;case hv=>(simp [Act.eval,Act.put]))
    | (have HK8:=Za (HK2.out.below HB5.out);obtain ⟨ah8,la8,e81,e82,hd8⟩:=HK8.out.desk
       refine step_store_at rfl 78 (.tmp 23) (.tmp 21) rfl gd 2 (by rfl) 80 (dhd gv N) (bkcs X.rd X.S X.S0) (bkcs true S S) (ah8++dtl false la8) (by rfl) hd8 rfl (by simp [bkcs_len]) (i2.out _ (bkcs_len _ _ _)) (bkcs_one _ _ _) ?_;intro w9 hr9 hg9;have HR9:=Za hr9;have HG9:=Za hg9;have HE9:=Za (p:=ah8.length=775∧(∀ v ∈ ah8,v.oneCell'=true)) ⟨e81,e82⟩;clear hr9 hg9 e81 e82 hd8))
  go_end0;exact ⟨rfl,Za (HK8.out.own (X':=X.loaded S) HR9.out HE9.out.1 HE9.out.2 rfl (Chg.one HG9.out)),Za ((HC2.out.trans (Chg.of (F:=[]) HB5.out) (by simp)).trans (Chg.one HG9.out) (fun x hx=>.inl hx))⟩
theorem dload_not (h:DK b w gd gv gm gs r Bs N n X) (hr:X.rd=false) (l:L8) (hl:seeX X Bs 0=some l) (hlen:l.length≤3000) (hS:¬ SOk (norm l)):Calls Tryz.prog 28 #[.pointer (some ⟨gd,0,none⟩)] w (DOne b w gd gv gm gs r Bs N n (X.loaded supN) tup0):=by
  obtain ⟨ah,la,e1,e2,hd⟩:=h.desk;have c2:w.cell? ⟨gd,2,none⟩=some (.bool false):=by rw [hd.cell,dcs_2,hr]
  have HS:=Za (dsee h 0 (by unfold I64;omega) l hl hlen)
  have HU:=Za (p:=∀ (y:BV) (W:World),y.l=norm l→Hol W y.A y.l→Calls Tryz.prog 63 #[.slice y.A y.l.length y.c] W fun e w'=>e=.returned (.tuple #[.agg sup0.cs.toArray,.int .i64 210])∧Below W.heap.size W w') (fun y W hy hh=>by
      rw [hy] at hh ⊢;exact gunpack_not y.A _ y.c (norm l) rfl (by have:=norm_len hlen;omega) hS W hh)
  have i1:=Za (fun x:Sup=>info_cs x);have i2:=Za info_bkcs;have hz:=Za zero_sup;have HBB:=Za built_book;have HNE:=Za h.ne;clear h hd hl hlen hS e1 e2 hr;go_enter Tryz.func28,Tryz.ntmps28
  go_wp2_with (first
    | (go_at_call 34;refine HS.out.mono ?_;rintro e w2 ⟨y,rfl,hy,ho,hk,hc⟩;have HK2:=hk
       have HC2:=hc;have HU2:=Za (HU.out y w2 hy.out ho.out.hol);clear hy ho hk hc c2)
    | (go_at_call 63;refine HU2.out.mono ?_;rintro e w3 ⟨rfl,hb⟩;have HB3:=Za hb
       clear hb)
    | (refine step_alloc rfl 2 rfl 76 rfl _ hz.out ?_;intro g4 w4 hr4 hg4 hb4 hs4;have HR4:=Za hr4
       have HB4:=Za (below_nxt hb4 HB3.out);have HG4:=Za (p:=w2.heap.size≤g4) (by rw [hg4.out];exact HB3.out.size);clear hr4 hg4 hb4 hs4)
    | (refine step_store rfl 76 (.tmp 2) (.tmp 13) rfl g4 rfl _ _ sup0.cs rfl HR4.out (by simp [Sup.cs_len]) (i1.out _) (Sup.cs_one _) ?_;intro w5 hr5 hg5 hs5;have HR5:=Za hr5
       have HB5:=Za (below_own HB4.out hg5 HG4.out);clear hr5 hg5 hs5 HR4)
    | (go_at_call 64;refine (gnew_any _).mono ?_;rintro e w6 ⟨rfl,hb⟩;have HR6:=Za (HR5.out.kept hb)
       have HB6:=Za (below_nxt hb HB5.out);clear hb)
    | (refine step_store rfl 76 (.tmp 2) (.tmp 17) rfl g4 rfl _ _ supN.cs rfl HR6.out (by simp [Sup.cs_len]) (i1.out _) (Sup.cs_one _) ?_;intro w7 hr7 hg7 hs7;have HR7:=Za hr7
       have HB7:=Za (below_own HB6.out hg7 HG4.out);clear hr7 hg7 hs7 HR6 HR5)
    | (refine step_load rfl 19 rfl 76 (.tmp 2) rfl g4 rfl supN.cs _ HR7.out.all Yj rfl (i1.out _) ?_)
    | (refine step_load rfl 20 rfl 76 (.tmp 2) rfl g4 rfl supN.cs _ HR7.out.all Yj rfl (i1.out _) ?_)
    | (refine step_build rfl 78 _ rfl [(0,.bool true),(1,.agg supN.cs.toArray),(2,.agg supN.cs.toArray)] ?hv _ (HBB.out _ _) ?_;case hv=>(simp [Act.eval,Act.put]))
    | (have HK8:=Za (HK2.out.below HB7.out);obtain ⟨ah8,la8,e81,e82,hd8⟩:=HK8.out.desk
       refine step_store_at rfl 78 (.tmp 23) (.tmp 21) rfl gd 2 (by rfl) 80 (dhd gv N) (bkcs X.rd X.S X.S0) (bkcs true supN supN) (ah8++dtl false la8) (by rfl) hd8 rfl (by simp [bkcs_len]) (i2.out _ (bkcs_len _ _ _)) (bkcs_one _ _ _) ?_;intro w9 hr9 hg9;have HR9:=Za hr9;have HG9:=Za hg9;have HE9:=Za (p:=ah8.length=775∧(∀ v ∈ ah8,v.oneCell'=true)) ⟨e81,e82⟩;clear hr9 hg9 e81 e82 hd8))
  go_end0;exact ⟨rfl,Za (HK8.out.own (X':=X.loaded supN) HR9.out HE9.out.1 HE9.out.2 rfl (Chg.one HG9.out)),Za ((HC2.out.trans (Chg.of (F:=[]) HB7.out) (by simp)).trans (Chg.one HG9.out) (fun x hx=>.inl hx))⟩
theorem dload {X':DX} (h:DK b w gd gv gm gs r Bs N n X) (hL:LdR Bs X X'):Calls Tryz.prog 28 #[.pointer (some ⟨gd,0,none⟩)] w (DOne b w gd gv gm gs r Bs N n X' tup0):=by
  rcases hL with ⟨h1,rfl⟩ | ⟨h1,l,S,h2,h3,h4,rfl⟩
  · exact dload_have h h1
  · rcases h4 with ⟨h5,rfl⟩ | h5
    · exact dload_not h h1 l h2 h3 h5
    · exact dload_ok h h1 l h2 h3 S h5
end
/- A desk's super,told,set and saved;an inode's slot. Conditions:the desk lies there. -/
section
variable {b:Nat} {w w':World} {gd gv gm gs r:Nat} {Bs:List BV} {N n:Nat} {X X':DX}
def HBegin (b:Nat) (w:World) (gd gv gm gs r:Nat) (Bs:List BV) (N n:Nat) (X:DX):Prop:=∀ W,Below w.heap.size w W→Calls Tryz.prog 27 #[.pointer (some ⟨gd,0,none⟩)] W fun e w'=>e=.returned (.tuple #[])∧Hid (DK b w' gd gv gm gs r Bs N n X)∧Hid (Chg [gd] W w')
theorem hbegin (h:DK b w gd gv gm gs r Bs N n X) (hn:n≤3000):HBegin b w gd gv gm gs r Bs N n X:=fun W hb=>dbegin (h.below hb) hn
theorem DK.parts (h:DK b w gd gv gm gs r Bs N n X):∃ tl ah la,ah.length=775∧(∀ v ∈ ah,v.oneCell'=true)∧tl=ah++dtl false la∧Row w gd 80 ((dhd gv N++[.bool X.rd])++(X.S.cs++(X.S0.cs++tl))):=by
  obtain ⟨ah,la,e1,e2,hd⟩:=h.desk;exact ⟨_,ah,la,e1,e2,rfl,by rw [dcs_S] at hd;exact hd⟩
def DX.setS (X:DX) (S:Sup):DX:=⟨X.rd,S,X.S0,X.C⟩
theorem DK.setS {tl ah:List Value} {la:Int} {S:Sup} (h:DK b w gd gv gm gs r Bs N n X) (e1:ah.length=775) (e2:∀ v ∈ ah,v.oneCell'=true) (e3:tl=ah++dtl false la) (hr:Row w' gd 80 ((dhd gv N++[.bool X.rd])++(S.cs++(X.S0.cs++tl)))) (hc:Chg [gd] w w'):DK b w' gd gv gm gs r Bs N n (X.setS S):=by
  subst e3;rw [← dcs_S] at hr;exact h.own (X':=X.setS S) hr e1 e2 rfl hc
theorem chg_nxt {F:List Nat} {a c d:World} (h:Chg F a c) (hb:Below c.heap.size c d):Chg F a d:=h.trans (Chg.of (F:=[]) hb) (by simp)
theorem chg_same {F:List Nat} {a c d:World} (h:Chg F a c) (k:Chg F c d):Chg F a d:=h.trans k (fun x hx=>.inl hx)
theorem DK.other {g:Nat} {t:TypeId} {cs:List Value} (h:DK b w gd gv gm gs r Bs N n X) (hr:Row w g t cs) (ht:t≠80∧t≠68∧t≠70∧t≠5) (hb:b≤g) (hc:Chg [g] w w'):DK b w' gd gv gm gs r Bs N n X:=by
  obtain ⟨_,_,_,_,hd⟩:=h.desk;obtain ⟨C,hv,_⟩:=h.view
  exact h.chg hc (by simp;exact (hr.ne_ hd ht.1).symm) (by simp;exact (hr.ne_ hv.row ht.2.1).symm) (by simp;exact fun e=>hv.map.no_cells _ _ _ (e ▸ hr.heap)) (by simp;exact (hr.ne_ h.run ht.2.2.1).symm) (fun x hx cs fr=>by
    rw [Zr] at hx;subst hx
    exact row_noB hr ht.2.2.2 _ _) (fun x hx=>by
    rw [Zr] at hx;subst hx;exact hb)
theorem chg_own {F:List Nat} {a c d:World} {g:Nat} (h:Chg F a c) (hg:a.heap.size≤g) (k:Chg [g] c d):Chg F a d:=h.trans k (fun x hx=>by
  rw [Zr] at hx;subst hx;exact .inr hg)
theorem dslot (k:Nat) (hk:1≤k∧k≤64) (h:DK b w gd gv gm gs r Bs N n X) (hL:LdR Bs X X'):Calls Tryz.prog 32 #[.pointer (some ⟨gd,0,none⟩),.int .i64 (k:Int)] w (DOne b w gd gv gm gs r Bs N n X' (.int .i64 (X'.S.i k))):=by
  have HLD:=Za (dload h hL);have h1:¬ (k:Int)<1:=by omega
  have h2:¬ (64:Int)<(k:Int):=by omega
  have h3:(k:Int)<65:=by omega
  have HK:=Za hk;clear h hL hk;go_enter Tryz.func32,Tryz.ntmps32
  go_wp2_with (go_at_call 28;refine HLD.out.mono ?_;rintro e w4 ⟨rfl,hk,hc⟩;obtain ⟨ah,la,e1,e2,hd⟩:=hk.out.desk
               have ci:w4.cell? ⟨gd,260+k,none⟩=some (.int .i64 (X'.S.i k)):=(hd.cell _).trans (dcs_i (by have:=HK.out;omega));have HK4:=hk;have HC4:=hc;clear hk hc e1 e2 hd)
  go_ret;exact ⟨rfl,HK4,HC4⟩
end
/- Files:whether a list is needed,how many slots a file takes,and its slots in order. Conditions:those named. -/
theorem app_congr {a b c d:List Value} (h:a=c) (k:b=d):a++b=c++d:=by rw [h,k]
def cnz (R:Nat→Int):Nat→Nat
  | 0=>0
  | k+1=>cnz R k+if R k=0 then 0 else 1
theorem cnz_le (R:Nat→Int):∀ k,cnz R k≤k
  | 0=>Zj _
  | k+1=>by have:=cnz_le R k;unfold cnz;split <;> omega
def lsd (R:Nat→Int):Bool:= !((List.range 112).all fun j=>R (16+j)==ino0 j)
theorem lsd_iff (R:Nat→Int):lsd R=true↔∃ j,j<112∧R (16+j)≠0:=by
  unfold lsd;rw [Bool.not_eq_true', ← Bool.not_eq_true,List.all_eq_true];simp only [List.mem_range,beq_iff_eq,ino0];constructor
  · intro h;by_cases hx:∃ j,j<112∧R (16+j)≠0
    · exact hx
    · refine absurd (fun j hj=>?_) h;by_cases e:R (16+j)=0
      · exact e
      · exact absurd ⟨j,hj,e⟩ hx
  · rintro ⟨j,hj,hne⟩ h;exact hne (h j hj)
def tks (R:Nat→Int):Nat:=cnz R 128+if lsd R=true then 1 else 0
theorem listed_any (R:Nat→Int) (w:World):Calls Tryz.prog 52 #[.agg (inl 128 R).toArray] w fun e w'=>e=.returned (.bool (lsd R))∧Below w.heap.size w w':=by
  have i1:=Za info_rows;obtain ⟨z,hz⟩:∃ z,lsd R=z:=⟨_,rfl⟩
  have HEQ:=Za (p:=∀ w,(Op.equalIn 10000 146 (.agg (inl 112 fun j=>R (16+j)).toArray) (.agg (inl 112 ino0).toArray)).run Tryz.prog w=.ok (!z) w) (fun w=>by
    rw [← hz,lsd,Bool.not_not];exact eq_inl 9998 112 _ Tryz.underlying146 _ _ w)
  have HL:=Za (list_any R);obtain ⟨L,hL⟩:∃ L:Nat→Int,(fun j=>R (16+j))=L:=⟨_,rfl⟩;rw [hL] at HEQ HL;rw [hz];clear hL hz;go_enter Tryz.func52,Tryz.ntmps52
  go_wp2_with (first
    | (refine step_box rfl 1 rfl 99 (.tmp 0) rfl (inl 128 R) rfl ?_;intro g1 w2 hr2 hg2 hb2 hs2;have HR12:=Za hr2
       have HB2:=Za hb2;clear hr2 hg2 hb2 hs2)
    | (refine step_load rfl 3 rfl 99 (.tmp 1) rfl g1 rfl (inl 128 R) _ HR12.out.all Yk rfl (i1.out _) ?_)
    | (go_at_call 88;refine (HL.out _).mono ?_;rintro e w3 ⟨rfl,hb⟩;have HB3:=Za (below_nxt hb HB2.out)
       clear hb)
    | (refine step_build rfl 146 _ rfl [] ?hv _ built_112 ?_;case hv=>(simp [Act.eval]))
    | (refine step_neq (by rfl) 146 146 (.tmp 4) (.tmp 5) rfl _ _ rfl rfl l112_guard (!z) (fun w=>HEQ.out w) ?_;rw [Bool.not_not]))
  go_ret;exact ⟨rfl,HB3.out⟩
theorem takes_any (R:Nat→Int) (w:World):Calls Tryz.prog 44 #[.agg (inl 128 R).toArray] w fun e w'=>e=.returned (.int .i64 (tks R:Int))∧Below w.heap.size w w':=by
  have i1:=Za info_rows;have HLS:=Za (listed_any R);have HTK:=Za (p:=(lsd R=true→tks R=cnz R 128+1)∧(lsd R=false→tks R=cnz R 128)) ⟨fun h=>by unfold tks;rw [if_pos h],fun h=>by unfold tks;rw [h];rfl⟩;go_enter Tryz.func44,Tryz.ntmps44
  go_wp2_with (first
    | (refine step_box rfl 1 rfl 99 (.tmp 0) rfl (inl 128 R) rfl ?_;intro g1 w2 hr2 hg2 hb2 hs2;have HR12:=Za hr2
       have HB2:=Za hb2;clear hr2 hg2 hb2 hs2))
  go_loopw [3,5] (fun x y wr=>∃ k:Nat,k≤128∧x=.int .i64 (cnz R k:Int)∧y=.int .i64 (k:Int)∧wr=w2) (fun _ y _=>128 - (intOf y).toNat)
  case atStart=>exact ⟨0,by omega,rfl,rfl,rfl⟩
  case round=>
    obtain ⟨k,hk,rfl,rfl,rfl⟩:=hrel;by_cases hk2:k<128
    · have hki:(k:Int)<128:=by omega
      obtain ⟨z,hz⟩:∃ z,R k=z:=⟨_,rfl⟩;have ck:wr.cell? ⟨g1,k,none⟩=some (.int .i64 z):=by rw [HR12.out.cell,inl_get _ hk2,hz]
      have hkw:IntKind.i64.wrap ((k:Int)+1)=(k:Int)+1:=by rw [Zg];omega
      have hle:=cnz_le R k;obtain ⟨c,hc⟩:∃ c,cnz R k=c:=⟨_,rfl⟩;rw [hc] at hle ⊢;have hcw:IntKind.i64.wrap ((c:Int)+1)=(c:Int)+1:=by rw [Zg];omega
      by_cases h0:z=0
      · have hz0:(z !=0)=false:=by simp [h0]
        have HN:=Za (p:=cnz R (k+1)=c) (by unfold cnz;rw [hz,if_pos h0,hc];rfl);have HK:=Za hk2;clear h0 hz hc hle hk hk2;go_wp2;go_roundw
        case rel=>exact ⟨k+1,HK.out,by rw [HN.out],by go_num,trivial⟩
        case measure=>have:=HK.out;simp [intOf];omega
      · have hz0:(z !=0)=true:=by simpa using h0
        have HN:=Za (p:=cnz R (k+1)=c+1) (by unfold cnz;rw [hz,if_neg h0,hc]);have HK:=Za hk2;clear h0 hz hc hle hk hk2;go_wp2;go_roundw
        case rel=>exact ⟨k+1,HK.out,by rw [HN.out];go_num,by go_num,trivial⟩
        case measure=>have:=HK.out;simp [intOf];omega
    · have e:k=128:=by omega
      subst e;have hle:=cnz_le R 128;obtain ⟨c,hc⟩:∃ c,cnz R 128=c:=⟨_,rfl⟩;rw [hc] at hle HTK ⊢;have hcw:IntKind.i64.wrap ((c:Int)+1)=(c:Int)+1:=by rw [Zg];omega
      obtain ⟨z,hz⟩:∃ z,lsd R=z:=⟨_,rfl⟩;rw [hz] at HTK HLS;clear hc hle hk hk2
      go_wp2_with (first
        | (refine step_load rfl 15 rfl 99 (.tmp 1) rfl g1 rfl (inl 128 R) _ HR12.out.all Yk rfl (i1.out _) ?_)
        | (go_at_call 52;refine (HLS.out _).mono ?_;rintro e w3 ⟨rfl,hb⟩;have HB3:=Za (below_nxt hb HB2.out)
           clear hb;cases z))
      · go_ret;exact ⟨by rw [HTK.out.2 trivial];rfl,HB3.out⟩
      · go_ret;exact ⟨by rw [HTK.out.1 trivial];rfl,HB3.out⟩
def rowD (v:Nat→Int):Nat→Int:=fun j=>if j<16 then v (10+j) else 0
theorem rowD_split (v:Nat→Int):inl 128 (rowD v)=inl 16 (fun j=>v (10+j))++inl 112 ino0:=by
  rw [inl_split];exact app_congr (inl_congr fun j hj=>by unfold rowD;rw [if_pos hj]) (inl_congr fun j hj=>by unfold rowD;rw [if_neg (by omega)];rfl)
def rowL (v L:Nat→Int):Nat→Int:=fun j=>if j<16 then v (10+j) else L (j - 16)
theorem rowL_split (v L:Nat→Int):inl 128 (rowL v L)=inl 16 (fun j=>v (10+j))++inl 112 L:=by
  rw [inl_split];exact app_congr (inl_congr fun j hj=>by unfold rowL;rw [if_pos hj]) (inl_congr fun j hj=>by unfold rowL;rw [if_neg (by omega)];rw [Nat.add_sub_cancel_left])
section
variable {b:Nat} {w w':World} {gd gv gm gs r:Nat} {Bs:List BV} {N n:Nat} {X X':DX}
theorem drow_direct (v:Nat→Int) (e:Nat) (h:DK b w gd gv gm gs r Bs N n X) (he:e≤16∨v 26=0):Calls Tryz.prog 43 #[.pointer (some ⟨gd,0,none⟩),.agg (ncs v).toArray,.int .i64 (e:Int)] w (DOne b w gd gv gm gs r Bs N n X (.agg (inl 128 (rowD v)).toArray)):=by
  have i1:=Za info_rows;have i2:=Za info_inl;have i3:=Za info_int;have hz0:=Za zero_row;have hz2:=Za zero_112;have H:=Za h;obtain ⟨RR,hRR⟩:∃ RR,(rowD v)=RR:=⟨_,rfl⟩;have HRR:=Za (p:=inl 128 RR=inl 16 (fun j=>v (10+j))++inl 112 ino0) (by rw [← hRR];exact rowD_split v);have HNC:=Za (p:=ncs v=[.int .i64 (v 0),.int .i64 (v 1),.int .u32 (v 2),.int .u32 (v 3),.int .i64 (v 4),.int .i64 (v 5),.int .u64 (v 6),.int .u32 (v 7),.int .i64 (v 8),.int .u32 (v 9)]++(inl 16 (fun j=>v (10+j))++[.int .i64 (v 26)])) rfl;rw [hRR];clear hRR;obtain ⟨v26,hv26⟩:∃ v26,v 26=v26:=⟨_,rfl⟩
  have hdec:(16:Int)<(e:Int)∧(v26 !=0)=false∨¬ (16:Int)<(e:Int):=by
    rcases he with h1 | h1
    · exact .inr (by omega)
    · by_cases h2:(16:Int)<(e:Int)
      · exact .inl ⟨h2,by rw [← hv26,h1];rfl⟩
      · exact .inr h2
  have HV:=Za hv26;clear h he hv26;rcases hdec with ⟨he1,he2⟩ | he1
  · go_enter Tryz.func43,Tryz.ntmps43
    go_wp2_with (first
      | (refine step_box rfl 4 rfl 43 (.tmp 1) rfl (ncs v) rfl ?_;intro g4 w2 hr2 hg2 hb2 hs2;have HR42:=Za hr2
         have HB2:=Za hb2;have HG4:=Za (p:=w.heap.size≤g4) (Nat.le_of_eq hg2.out.symm);clear hr2 hg2 hb2 hs2)
      | (refine step_alloc rfl 6 rfl 99 rfl _ hz0.out ?_;intro g6 w3 hr2 hg2 hb2 hs2;have HR63:=Za hr2
         have HR43:=Za (HR42.out.kept hb2);have HB3:=Za (below_nxt hb2 HB2.out);have HG6:=Za (p:=w.heap.size≤g6∧g4<g6) (by rw [hg2.out];exact ⟨HB2.out.size,HR42.out.lt⟩);clear hr2 hg2 hb2 hs2;have MK:=trivial)
      | (clear MK;refine step_alloc rfl 7 rfl 99 rfl _ hz0.out ?_;intro g7 w4 hr2 hg2 hb2 hs2;have HR74:=Za hr2
         have HR44:=Za (HR43.out.kept hb2);have HR64:=Za (HR63.out.kept hb2);have HB4:=Za (below_nxt hb2 HB3.out);have HG7:=Za (p:=w.heap.size≤g7∧g4<g7∧g6<g7) (by rw [hg2.out];exact ⟨HB3.out.size,HR43.out.lt,HR63.out.lt⟩);clear hr2 hg2 hb2 hs2))
    refine Zq (S:=fun _=>True) (by kernel_rfl) trivial (fun hHeld=>?_);refine Ze (i:=0) (oi:=⟨some 10,.slice 99 (.tmp 7) none none none,_,_,_,_⟩) (v:=.slice (some ⟨g7,0,none⟩) 128 128) rfl (by kernel_rfl) (by kernel_rfl) (by kernel_rfl) (fun _ _ _ h=>h) (.inl ⟨by rfl,fun w hSw=>by go_simp⟩) (by assumption) ?_;simp only [Act.put,Zb,Zc,Zd];refine Ze (i:=1) (oi:=⟨some 11,.fieldAddr 43 (.tmp 4) 10,_,_,_,_⟩) (v:=.pointer (some ⟨g4,10,none⟩)) rfl (by kernel_rfl) (by kernel_rfl) (by kernel_rfl) (fun _ _ _ h=>h) (.inl ⟨by rfl,fun w hSw=>by go_simp⟩) (by assumption) ?_;simp only [Act.put,Zb,Zc,Zd];refine Ze (i:=2) (oi:=⟨some 12,.slice 41 (.tmp 11) none none none,_,_,_,_⟩) (v:=.slice (some ⟨g4,10,none⟩) 16 16) rfl (by kernel_rfl) (by kernel_rfl) (by kernel_rfl) (fun _ _ _ h=>h) (.inl ⟨by rfl,fun w hSw=>by go_simp⟩) (by assumption) ?_;simp only [Act.put,Zb,Zc,Zd];refine Zp (rs:=[3]) (by kernel_rfl) (by simp) ?_;refine Zl (o:=⟨some 13,.call ⟨.builtin .copy,#[.tmp 10,.tmp 12],#[114,114]⟩,_,_,_,_⟩) rfl (fun K hK=>?_) Zo;refine k_copy_part (.tmp 10) (.tmp 12) 114 114 rfl 3 Tryz.underlying114 i3.out g7 0 128 128 (by rfl) 99 [] (inl 16 ino0) (inl 16 (fun j=>v (10+j))) (inl 112 ino0) (by have h:=HR74.out.drew;rw [inl_split] at h;exact h) rfl (by rw [inl_len,inl_len]) ⟨g4,10,none⟩ 16 16 (by rfl) (by rw [inl_len];rfl) (row_src_at (by have h:=HR44.out.drew;rw [HNC.out] at h;exact h) rfl) (inl_one _ _) ?_;intro w5 hr5 hg5;have HR75:=Za (p:=Row w5 g7 99 (inl 16 (fun j=>v (10+j))++inl 112 ino0)) (by simpa using hr5);have HB5:=Za (p:=Below w.heap.size w w5) (below_own (Below.trans HB4.out (below_drw w4 |>.mono HB4.out.size)) hg5 HG7.out.1);have HR65:=Za (HR64.out.drew.grown hg5 (fun e=>by have:=HG7.out;injection e;omega));have HR45:=Za (HR44.out.drew.grown hg5 (fun e=>by have:=HG7.out;injection e;omega));clear hr5 hg5;refine hK.out _ _ trivial (fun _hH=>?_);clear hK K;refine Yg (by kernel_rfl) ?_ _;have c26:w5.cell? ⟨g4,26,none⟩=some (.int .i64 v26):=by rw [← HV.out];exact (HR45.out.cell 26).trans rfl
    have HRX:=Za (p:=Row w5 g7 99 (inl 128 RR)) (by rw [HRR.out];exact HR75.out)
    go_wp2_with (first
      | (refine step_load rfl 32 rfl 99 (.tmp 7) rfl g7 rfl (inl 128 RR) _ HRX.out.all Yk rfl (i1.out _) ?_)
      | (refine step_store rfl 99 (.tmp 6) (.tmp 32) rfl g6 (by rfl) _ _ (inl 128 RR) (by rfl) HR65.out (by rw [inl_len,inl_len]) (i1.out _) (inl_one _ _) ?_;intro w9 hr9 hg9 hs9))
    refine Yd (results_cell_row rfl _ _ g6 _ _ _ _ rfl hr9 Yk rfl (by simpa using i1.out RR)) rfl ?_;have hb9:=below_own HB5.out hg9 HG6.out.1;exact ⟨rfl,Za (H.out.below hb9),Za (Chg.of hb9)⟩
  · go_enter Tryz.func43,Tryz.ntmps43
    go_wp2_with (first
      | (refine step_box rfl 4 rfl 43 (.tmp 1) rfl (ncs v) rfl ?_;intro g4 w2 hr2 hg2 hb2 hs2;have HR42:=Za hr2
         have HB2:=Za hb2;have HG4:=Za (p:=w.heap.size≤g4) (Nat.le_of_eq hg2.out.symm);clear hr2 hg2 hb2 hs2)
      | (refine step_alloc rfl 6 rfl 99 rfl _ hz0.out ?_;intro g6 w3 hr2 hg2 hb2 hs2;have HR63:=Za hr2
         have HR43:=Za (HR42.out.kept hb2);have HB3:=Za (below_nxt hb2 HB2.out);have HG6:=Za (p:=w.heap.size≤g6∧g4<g6) (by rw [hg2.out];exact ⟨HB2.out.size,HR42.out.lt⟩);clear hr2 hg2 hb2 hs2;have MK:=trivial)
      | (clear MK;refine step_alloc rfl 7 rfl 99 rfl _ hz0.out ?_;intro g7 w4 hr2 hg2 hb2 hs2;have HR74:=Za hr2
         have HR44:=Za (HR43.out.kept hb2);have HR64:=Za (HR63.out.kept hb2);have HB4:=Za (below_nxt hb2 HB3.out);have HG7:=Za (p:=w.heap.size≤g7∧g4<g7∧g6<g7) (by rw [hg2.out];exact ⟨HB3.out.size,HR43.out.lt,HR63.out.lt⟩);clear hr2 hg2 hb2 hs2))
    refine Zq (S:=fun _=>True) (by kernel_rfl) trivial (fun hHeld=>?_);refine Ze (i:=0) (oi:=⟨some 10,.slice 99 (.tmp 7) none none none,_,_,_,_⟩) (v:=.slice (some ⟨g7,0,none⟩) 128 128) rfl (by kernel_rfl) (by kernel_rfl) (by kernel_rfl) (fun _ _ _ h=>h) (.inl ⟨by rfl,fun w hSw=>by go_simp⟩) (by assumption) ?_;simp only [Act.put,Zb,Zc,Zd];refine Ze (i:=1) (oi:=⟨some 11,.fieldAddr 43 (.tmp 4) 10,_,_,_,_⟩) (v:=.pointer (some ⟨g4,10,none⟩)) rfl (by kernel_rfl) (by kernel_rfl) (by kernel_rfl) (fun _ _ _ h=>h) (.inl ⟨by rfl,fun w hSw=>by go_simp⟩) (by assumption) ?_;simp only [Act.put,Zb,Zc,Zd];refine Ze (i:=2) (oi:=⟨some 12,.slice 41 (.tmp 11) none none none,_,_,_,_⟩) (v:=.slice (some ⟨g4,10,none⟩) 16 16) rfl (by kernel_rfl) (by kernel_rfl) (by kernel_rfl) (fun _ _ _ h=>h) (.inl ⟨by rfl,fun w hSw=>by go_simp⟩) (by assumption) ?_;simp only [Act.put,Zb,Zc,Zd];refine Zp (rs:=[3]) (by kernel_rfl) (by simp) ?_;refine Zl (o:=⟨some 13,.call ⟨.builtin .copy,#[.tmp 10,.tmp 12],#[114,114]⟩,_,_,_,_⟩) rfl (fun K hK=>?_) Zo;refine k_copy_part (.tmp 10) (.tmp 12) 114 114 rfl 3 Tryz.underlying114 i3.out g7 0 128 128 (by rfl) 99 [] (inl 16 ino0) (inl 16 (fun j=>v (10+j))) (inl 112 ino0) (by have h:=HR74.out.drew;rw [inl_split] at h;exact h) rfl (by rw [inl_len,inl_len]) ⟨g4,10,none⟩ 16 16 (by rfl) (by rw [inl_len];rfl) (row_src_at (by have h:=HR44.out.drew;rw [HNC.out] at h;exact h) rfl) (inl_one _ _) ?_;intro w5 hr5 hg5;have HR75:=Za (p:=Row w5 g7 99 (inl 16 (fun j=>v (10+j))++inl 112 ino0)) (by simpa using hr5);have HB5:=Za (p:=Below w.heap.size w w5) (below_own (Below.trans HB4.out (below_drw w4 |>.mono HB4.out.size)) hg5 HG7.out.1);have HR65:=Za (HR64.out.drew.grown hg5 (fun e=>by have:=HG7.out;injection e;omega));have HR45:=Za (HR44.out.drew.grown hg5 (fun e=>by have:=HG7.out;injection e;omega));clear hr5 hg5;refine hK.out _ _ trivial (fun _hH=>?_);clear hK K;refine Yg (by kernel_rfl) ?_ _;have c26:w5.cell? ⟨g4,26,none⟩=some (.int .i64 v26):=by rw [← HV.out];exact (HR45.out.cell 26).trans rfl
    have HRX:=Za (p:=Row w5 g7 99 (inl 128 RR)) (by rw [HRR.out];exact HR75.out)
    go_wp2_with (first
      | (refine step_load rfl 32 rfl 99 (.tmp 7) rfl g7 rfl (inl 128 RR) _ HRX.out.all Yk rfl (i1.out _) ?_)
      | (refine step_store rfl 99 (.tmp 6) (.tmp 32) rfl g6 (by rfl) _ _ (inl 128 RR) (by rfl) HR65.out (by rw [inl_len,inl_len]) (i1.out _) (inl_one _ _) ?_;intro w9 hr9 hg9 hs9))
    refine Yd (results_cell_row rfl _ _ g6 _ _ _ _ rfl hr9 Yk rfl (by simpa using i1.out RR)) rfl ?_;have hb9:=below_own HB5.out hg9 HG6.out.1;exact ⟨rfl,Za (H.out.below hb9),Za (Chg.of hb9)⟩
theorem drow_listed (v L:Nat→Int) (e:Nat) (h:DK b w gd gv gm gs r Bs N n X) (z:Nat) (hz:v 26=(z:Int)) (hz0:0<z∧z<256) (l:L8) (hl:seeX X Bs z=some l) (hlen:l.length≤3000) (er:Int) (hU:lV (norm l)=.tuple #[.agg (inl 112 L).toArray,.int .i64 er]) (he:16<e):Calls Tryz.prog 43 #[.pointer (some ⟨gd,0,none⟩),.agg (ncs v).toArray,.int .i64 (e:Int)] w (DOne b w gd gv gm gs r Bs N n X (.agg (inl 128 (rowL v L)).toArray)):=by
  have i1:=Za info_rows;have i2:=Za info_inl;have i3:=Za info_int;have hz0:=Za zero_row;have hz2:=Za zero_112;have H:=Za h;obtain ⟨RR,hRR⟩:∃ RR,(rowL v L)=RR:=⟨_,rfl⟩;have HRR:=Za (p:=inl 128 RR=inl 16 (fun j=>v (10+j))++inl 112 L) (by rw [← hRR];exact rowL_split v L);have HNC:=Za (p:=ncs v=[.int .i64 (v 0),.int .i64 (v 1),.int .u32 (v 2),.int .u32 (v 3),.int .i64 (v 4),.int .i64 (v 5),.int .u64 (v 6),.int .u32 (v 7),.int .i64 (v 8),.int .u32 (v 9)]++(inl 16 (fun j=>v (10+j))++[.int .i64 (v 26)])) rfl;rw [hRR];clear hRR;have hee:(16:Int)<(e:Int):=by omega
  have hzn:((z:Int) !=0)=true:=by simp;omega
  have HZ:=Za hz;have HSEE:=Za (p:=I64 (z:Int)∧seeX X Bs z=some l∧l.length≤3000) ⟨by unfold I64;omega,hl,hlen⟩;have HU:=Za hU;clear h hz hl hlen hU he;go_enter Tryz.func43,Tryz.ntmps43
  go_wp2_with (first
    | (refine step_box rfl 4 rfl 43 (.tmp 1) rfl (ncs v) rfl ?_;intro g4 w2 hr2 hg2 hb2 hs2;have HR42:=Za hr2
       have HB2:=Za hb2;have HG4:=Za (p:=w.heap.size≤g4) (Nat.le_of_eq hg2.out.symm);clear hr2 hg2 hb2 hs2)
    | (refine step_alloc rfl 6 rfl 99 rfl _ hz0.out ?_;intro g6 w3 hr2 hg2 hb2 hs2;have HR63:=Za hr2
       have HR43:=Za (HR42.out.kept hb2);have HB3:=Za (below_nxt hb2 HB2.out);have HG6:=Za (p:=w.heap.size≤g6∧g4<g6) (by rw [hg2.out];exact ⟨HB2.out.size,HR42.out.lt⟩);clear hr2 hg2 hb2 hs2;have MK:=trivial)
    | (clear MK;refine step_alloc rfl 7 rfl 99 rfl _ hz0.out ?_;intro g7 w4 hr2 hg2 hb2 hs2;have HR74:=Za hr2
       have HR44:=Za (HR43.out.kept hb2);have HR64:=Za (HR63.out.kept hb2);have HB4:=Za (below_nxt hb2 HB3.out);have HG7:=Za (p:=w.heap.size≤g7∧g4<g7∧g6<g7) (by rw [hg2.out];exact ⟨HB3.out.size,HR43.out.lt,HR63.out.lt⟩);clear hr2 hg2 hb2 hs2))
  refine Zq (S:=fun _=>True) (by kernel_rfl) trivial (fun hHeld=>?_);refine Ze (i:=0) (oi:=⟨some 10,.slice 99 (.tmp 7) none none none,_,_,_,_⟩) (v:=.slice (some ⟨g7,0,none⟩) 128 128) rfl (by kernel_rfl) (by kernel_rfl) (by kernel_rfl) (fun _ _ _ h=>h) (.inl ⟨by rfl,fun w hSw=>by go_simp⟩) (by assumption) ?_;simp only [Act.put,Zb,Zc,Zd];refine Ze (i:=1) (oi:=⟨some 11,.fieldAddr 43 (.tmp 4) 10,_,_,_,_⟩) (v:=.pointer (some ⟨g4,10,none⟩)) rfl (by kernel_rfl) (by kernel_rfl) (by kernel_rfl) (fun _ _ _ h=>h) (.inl ⟨by rfl,fun w hSw=>by go_simp⟩) (by assumption) ?_;simp only [Act.put,Zb,Zc,Zd];refine Ze (i:=2) (oi:=⟨some 12,.slice 41 (.tmp 11) none none none,_,_,_,_⟩) (v:=.slice (some ⟨g4,10,none⟩) 16 16) rfl (by kernel_rfl) (by kernel_rfl) (by kernel_rfl) (fun _ _ _ h=>h) (.inl ⟨by rfl,fun w hSw=>by go_simp⟩) (by assumption) ?_;simp only [Act.put,Zb,Zc,Zd];refine Zp (rs:=[3]) (by kernel_rfl) (by simp) ?_;refine Zl (o:=⟨some 13,.call ⟨.builtin .copy,#[.tmp 10,.tmp 12],#[114,114]⟩,_,_,_,_⟩) rfl (fun K hK=>?_) Zo;refine k_copy_part (.tmp 10) (.tmp 12) 114 114 rfl 3 Tryz.underlying114 i3.out g7 0 128 128 (by rfl) 99 [] (inl 16 ino0) (inl 16 (fun j=>v (10+j))) (inl 112 ino0) (by have h:=HR74.out.drew;rw [inl_split] at h;exact h) rfl (by rw [inl_len,inl_len]) ⟨g4,10,none⟩ 16 16 (by rfl) (by rw [inl_len];rfl) (row_src_at (by have h:=HR44.out.drew;rw [HNC.out] at h;exact h) rfl) (inl_one _ _) ?_;intro w5 hr5 hg5;have HR75:=Za (p:=Row w5 g7 99 (inl 16 (fun j=>v (10+j))++inl 112 ino0)) (by simpa using hr5);have HB5:=Za (p:=Below w.heap.size w w5) (below_own (Below.trans HB4.out (below_drw w4 |>.mono HB4.out.size)) hg5 HG7.out.1);have HR65:=Za (HR64.out.drew.grown hg5 (fun e=>by have:=HG7.out;injection e;omega));have HR45:=Za (HR44.out.drew.grown hg5 (fun e=>by have:=HG7.out;injection e;omega));clear hr5 hg5;refine hK.out _ _ trivial (fun _hH=>?_);clear hK K;refine Yg (by kernel_rfl) ?_ _;have c26:w5.cell? ⟨g4,26,none⟩=some (.int .i64 (z:Int)):=by rw [← HZ.out];exact (HR45.out.cell 26).trans rfl
  have HK5:=Za (H.out.below HB5.out);have HLT:=Za H.out.lt;have HLO:=Za H.out.lo
  go_wp2_with (first
    | (go_at_call 34;refine (dsee HK5.out (z:Int) HSEE.out.1 l HSEE.out.2.1 HSEE.out.2.2).mono ?_;rintro e w6 ⟨y,rfl,hy,ho,hk,hc⟩;have HK6:=hk
       have HC6:=Za (p:=Chg [gd] w w6) ((Chg.of (F:=[gd]) HB5.out).trans hc.out (fun x hx=>.inl hx));have HR66:=Za (hc.out.row HR65.out (by have h1:=HLT.out;have h2:=HG6.out;simp;omega));have HR76:=Za (hc.out.row HR75.out (by have h1:=HLT.out;have h2:=HG7.out;simp;omega));have HY:=hy;have HO:=ho;clear hy ho hk hc c26)
    | (go_at_call 86;refine (unpacklist_any y.A _ y.c y.l rfl (by rw [HY.out];have:=norm_len HSEE.out.2.2;omega) _ HO.out.hol).mono ?_;rintro e w7 ⟨rfl,hb⟩;rw [HY.out,HU.out]
       have HK7:=Za (HK6.out.below hb);have HC7:=Za (chg_nxt HC6.out hb);have HR67:=Za (HR66.out.kept hb);have HR77:=Za (HR76.out.kept hb);clear hb)
    | (refine step_alloc rfl 8 rfl 146 rfl _ hz2.out ?_;intro g8 w8 hr8 hg8 hb8 hs8;have HR88:=Za hr8
       have HK8:=Za (HK7.out.below hb8);have HC8:=Za (chg_nxt HC7.out hb8);have HR68:=Za (HR67.out.kept hb8);have HR78:=Za (HR77.out.kept hb8);have HG8:=Za (p:=w.heap.size≤g8∧g6<g8∧g7<g8) (by rw [hg8.out];exact ⟨HC7.out.size,HR67.out.lt,HR77.out.lt⟩);clear hr8 hg8 hb8 hs8)
    | (refine step_store rfl 146 (.tmp 8) (.tmp 27) rfl g8 rfl _ _ (inl 112 L) rfl HR88.out (by rw [inl_len,inl_len]) (i2.out _) (inl_one _ _) ?_;intro w9 hr9 hg9 hs9;have HR89:=Za hr9
       have HK9:=Za (HK8.out.other HR88.out (by decide) (by have:=HLO.out;have:=HG8.out;omega) (Chg.one hg9));have HC9:=Za (chg_own HC8.out HG8.out.1 (Chg.one hg9));have HR69:=Za (HR68.out.grown hg9 (fun e=>by have:=HG8.out;injection e;omega));have HR79:=Za (HR78.out.grown hg9 (fun e=>by have:=HG8.out;injection e;omega));clear hr9 hg9 hs9))
  refine Zq (S:=fun _=>True) (by kernel_rfl) trivial (fun hHeld=>?_);refine Ze (i:=0) (oi:=⟨some 29,.slice 99 (.tmp 7) (some (Operand.const (Value.int IntKind.i64 16))) none none,_,_,_,_⟩) (v:=.slice (some ⟨g7,16,none⟩) 112 112) rfl (by kernel_rfl) (by kernel_rfl) (by kernel_rfl) (fun _ _ _ h=>h) (.inl ⟨by rfl,fun w hSw=>by go_simp⟩) (by assumption) ?_;simp only [Act.put,Zb,Zc,Zd];refine Ze (i:=1) (oi:=⟨some 30,.slice 146 (.tmp 8) none none none,_,_,_,_⟩) (v:=.slice (some ⟨g8,0,none⟩) 112 112) rfl (by kernel_rfl) (by kernel_rfl) (by kernel_rfl) (fun _ _ _ h=>h) (.inl ⟨by rfl,fun w hSw=>by go_simp⟩) (by assumption) ?_;simp only [Act.put,Zb,Zc,Zd];refine Zp (rs:=[2]) (by kernel_rfl) (by simp) ?_;refine Zl (o:=⟨some 31,.call ⟨.builtin .copy,#[.tmp 29,.tmp 30],#[114,114]⟩,_,_,_,_⟩) rfl (fun K hK=>?_) Zo;refine k_copy_part (.tmp 29) (.tmp 30) 114 114 rfl 3 Tryz.underlying114 i3.out g7 16 112 112 (by rfl) 99 (inl 16 (fun j=>v (10+j))) (inl 112 ino0) (inl 112 L) [] (by have h:=HR79.out.drew;simpa using h) (by rw [inl_len]) (by rw [inl_len,inl_len]) ⟨g8,0,none⟩ 112 112 (by rfl) (by rw [inl_len];rfl) (row_src_at (A:=[]) (B:=[]) (by have h:=HR89.out.drew;simpa using h) rfl) (inl_one _ _) ?_;intro w10 hr5 hg5;have HRX:=Za (p:=Row w10 g7 99 (inl 128 RR)) (by rw [HRR.out];simpa using hr5);have HK10:=Za ((HK9.out.below (below_drw w9)).other HR79.out.drew (by decide) (by have:=HLO.out;have:=HG7.out;omega) (Chg.one hg5));have HC10:=Za (p:=Chg [gd] w w10) (chg_own (chg_nxt HC9.out (below_drw w9)) HG7.out.1 (Chg.one hg5));have HR610:=Za (HR69.out.drew.grown hg5 (fun e=>by have:=HG7.out;injection e;omega));clear hr5 hg5;refine hK.out _ _ trivial (fun _hH=>?_);clear hK K;refine Yg (by kernel_rfl) ?_ _
  go_wp2_with (first
    | (refine step_load rfl 32 rfl 99 (.tmp 7) rfl g7 rfl (inl 128 RR) _ HRX.out.all Yk rfl (i1.out _) ?_)
    | (refine step_store rfl 99 (.tmp 6) (.tmp 32) rfl g6 (by rfl) _ _ (inl 128 RR) (by rfl) HR610.out (by rw [inl_len,inl_len]) (i1.out _) (inl_one _ _) ?_;intro w11 hr9 hg9 hs9))
  refine Yd (results_cell_row rfl _ _ g6 _ _ _ _ rfl hr9 Yk rfl (by simpa using i1.out RR)) rfl ?_;exact ⟨rfl,Za (HK10.out.other HR610.out (by decide) (by have:=HLO.out;have:=HG6.out;omega) (Chg.one hg9)),Za (chg_own HC10.out HG6.out.1 (Chg.one hg9))⟩
end
/- Files:what a block holds,and what it holds behind a write. Conditions:those named. -/
theorem info_block:(Tryz.prog.info? 110).map (·.size)=some 256:=by kernel_rfl
theorem info_brr (f:Nat→UInt8):(Tryz.prog.info? 110).map (·.size)=some (brr 256 f).length:=by rw [brr_len];exact info_block
theorem info_u8s:(Tryz.prog.info? 5).map (·.size)=some 1:=by kernel_rfl
theorem zero_block (w:World):(zeroValue 110).run Tryz.prog w=.ok (.agg (brr 256 fun _=>0).toArray) w:=by
  have h:(zeroValue 110).run Tryz.prog w=.ok (.agg (bc (List.replicate 256 0)).toArray) w:=by kernel_rfl
  rw [brr0_bc];exact h
theorem brr_same {n:Nat} {f g:Nat→UInt8} (h:∀ j,j<n→f j=g j):brr n f=brr n g:=by
  unfold brr;exact List.map_congr_left fun j hj=>by rw [h j (List.mem_range.1 hj)]
section
variable {P:Program} {w:World}
theorem k_copy {op:Oper} {a:Act} {Q:Exit→Act→World→Prop} {K:Act→World→Prop} (d s:Operand) (dT sT:TypeId) (ho:op.op=.call { callee:=.builtin .copy,args:=#[d,s],argTypes:=#[dT,sT] })
    (e:TypeId) (hu:P.underlying dT=some (.slice e)) (hs:(P.info? e).map (·.size)=some 1) (g o n dLen dCap:Nat) (t:TypeId) (f:Nat→UInt8) (hd:a.eval d=.slice (some ⟨g,o,none⟩) dLen dCap) (hr:_root_.Go.Proofs.YtijffkklhgnknaaGreatDoor.Row w g t (brr n f))
    (A:Option Addr) (m c:Nat) (l:List UInt8) (hx:a.eval s=.slice A m c) (hm:m=l.length) (hA:Hol w A l) (hfit:o+Nat.min m dLen≤n)
    (h:∀ w' k,_root_.Go.Proofs.YtijffkklhgnknaaGreatDoor.Row w' g t (brr n (ov o (l.take dLen) f))→Hid (Upon g w w')→K (a.put op.dst (goInt k)) w'):Oper.wp P op a w K Q:=by
  obtain ⟨w',k,hr1,h2,h3⟩:=run_copy_brr (P:=P) dT sT op.type e hu hs g o n dLen dCap t f hr A m c l hm hA hfit;unfold Oper.wp execOp;simp only [ho,resolve,invoke,builtin,Sem.run_bind,Sem.run_pure,Zw,List.map_toArray,List.map_cons,List.map_nil,hd,hx,hr1];exact h w' k h2 h3
end
def bfn (l:L8) (j:Nat):UInt8:=l.getD j 0
theorem ov_zero {l:L8} {f:Nat→UInt8} (hl:l.length=256):brr 256 (ov 0 (l.take 256) f)=brr 256 (bfn l):=brr_same fun j hj=>by
  rw [Zz (by omega),ov_in (by omega) (by omega)];rfl
def Cont (X:DX) (Bs:List BV) (z:Nat) (f:Nat→UInt8):Prop:=(z=0∧f=fun _=>0)∨(0<z∧z<256∧∃ l,seeX X Bs z=some l∧l.length≤3000∧(norm l).length=256∧f=bfn (norm l))
section
variable {b:Nat} {w w':World} {gd gv gm gs r:Nat} {Bs:List BV} {N n:Nat} {X X':DX}
theorem dcontent_hole (z:Nat) (h:DK b w gd gv gm gs r Bs N n X) (hz:z=0):Calls Tryz.prog 79 #[.pointer (some ⟨gd,0,none⟩),.int .i64 (z:Int)] w (DOne b w gd gv gm gs r Bs N n X (.agg (brr 256 (fun _=>0)).toArray)):=by
  have i1:=Za info_brr;have i2:=Za info_u8s;have hz0:=Za zero_block;have H:=Za h;have hzn:((z:Int) !=0)=false:=by subst hz;rfl
  obtain ⟨f0,hf0⟩:∃ f0:Nat→UInt8,(fun _=>0)=f0:=⟨_,rfl⟩;rw [hf0] at hz0 ⊢;clear h hz hf0;go_enter Tryz.func79,Tryz.ntmps79
  go_wp2_with (first
    | (refine step_alloc rfl 4 rfl 110 rfl _ hz0.out ?_;intro g4 w2 hr2 hg2 hb2 hs2;have HR42:=Za hr2
       have HB2:=Za hb2;have HG4:=Za (p:=w.heap.size≤g4) (Nat.le_of_eq hg2.out.symm);clear hr2 hg2 hb2 hs2;have MK:=trivial)
    | (clear MK;refine step_alloc rfl 5 rfl 110 rfl _ hz0.out ?_;intro g5 w3 hr2 hg2 hb2 hs2;have HR53:=Za hr2
       have HR43:=Za (HR42.out.kept hb2);have HB3:=Za (below_nxt hb2 HB2.out);have HG5:=Za (p:=w.heap.size≤g5∧g4<g5) (by rw [hg2.out];exact ⟨HB2.out.size,HR42.out.lt⟩);clear hr2 hg2 hb2 hs2)
    | (refine step_load rfl 13 rfl 110 (.tmp 5) rfl g5 rfl (brr 256 f0) _ HR53.out.all Tryz.underlying110 rfl (i1.out _) ?_)
    | (refine step_store rfl 110 (.tmp 4) (.tmp 13) rfl g4 (by rfl) _ _ (brr 256 f0) (by rfl) HR43.out (by rw [brr_len]) (i1.out _) (brr_one _ _) ?_;intro w9 hr9 hg9 hs9))
  refine Yd (results_cell_row rfl _ _ g4 _ _ _ _ rfl hr9 Tryz.underlying110 rfl (by simpa using i1.out f0)) rfl ?_;have hb9:=below_own HB3.out hg9 HG4.out;exact ⟨rfl,Za (H.out.below hb9),Za (Chg.of hb9)⟩
theorem dcontent_at (z:Nat) (h:DK b w gd gv gm gs r Bs N n X) (hz:0<z∧z<256) (l:L8) (hl:seeX X Bs z=some l) (hlen:l.length≤3000) (h256:(norm l).length=256):Calls Tryz.prog 79 #[.pointer (some ⟨gd,0,none⟩),.int .i64 (z:Int)] w (DOne b w gd gv gm gs r Bs N n X (.agg (brr 256 (bfn (norm l))).toArray)):=by
  have i1:=Za info_brr;have i2:=Za info_u8s;have hz0:=Za zero_block;have H:=Za h;have hzn:((z:Int) !=0)=true:=by simp;omega
  have HSEE:=Za (p:=I64 (z:Int)∧seeX X Bs z=some l∧l.length≤3000∧(norm l).length=256) ⟨by unfold I64;omega,hl,hlen,h256⟩;have HLT:=Za h.lt;have HLO:=Za h.lo;obtain ⟨f0,hf0⟩:∃ f0:Nat→UInt8,(fun _=>0)=f0:=⟨_,rfl⟩;rw [hf0] at hz0;clear h hz hl hlen h256 hf0;go_enter Tryz.func79,Tryz.ntmps79
  go_wp2_with (first
    | (refine step_alloc rfl 4 rfl 110 rfl _ hz0.out ?_;intro g4 w2 hr2 hg2 hb2 hs2;have HR42:=Za hr2
       have HB2:=Za hb2;have HG4:=Za (p:=w.heap.size≤g4) (Nat.le_of_eq hg2.out.symm);clear hr2 hg2 hb2 hs2;have MK:=trivial)
    | (clear MK;refine step_alloc rfl 5 rfl 110 rfl _ hz0.out ?_;intro g5 w3 hr2 hg2 hb2 hs2;have HR53:=Za hr2
       have HR43:=Za (HR42.out.kept hb2);have HB3:=Za (below_nxt hb2 HB2.out);have HG5:=Za (p:=w.heap.size≤g5∧g4<g5) (by rw [hg2.out];exact ⟨HB2.out.size,HR42.out.lt⟩);clear hr2 hg2 hb2 hs2))
  refine Zq (S:=fun _=>True) (by kernel_rfl) trivial (fun hHeld=>?_);refine Ze (i:=0) (oi:=⟨some 8,.slice 110 (.tmp 5) none none none,_,_,_,_⟩) (v:=.slice (some ⟨g5,0,none⟩) 256 256) rfl (by kernel_rfl) (by kernel_rfl) (by kernel_rfl) (fun _ _ _ h=>h) (.inl ⟨by rfl,fun w hSw=>by go_simp⟩) (by assumption) ?_;simp only [Act.put,Zb,Zc,Zd];refine Ze (i:=1) (oi:=⟨some 9,.move (.tmp 0),_,_,_,_⟩) (v:=.pointer (some ⟨gd,0,none⟩)) rfl (by kernel_rfl) (by kernel_rfl) (by kernel_rfl) (fun _ _ _ h=>h) (.inl ⟨by rfl,fun w hSw=>by go_simp⟩) (by assumption) ?_;simp only [Act.put,Zb,Zc,Zd];refine Ze (i:=2) (oi:=⟨some 10,.move (.tmp 1),_,_,_,_⟩) (v:=.int .i64 (z:Int)) rfl (by kernel_rfl) (by kernel_rfl) (by kernel_rfl) (fun _ _ _ h=>h) (.inl ⟨by rfl,fun w hSw=>by go_simp⟩) (by assumption) ?_;simp only [Act.put,Zb,Zc,Zd];refine Zp (rs:=[3]) (by kernel_rfl) (by simp) ?_;refine Zl (o:=⟨some 11,.call ⟨.value (.func 34),#[.tmp 9,.tmp 10],_⟩,_,_,_,_⟩) rfl (fun K hK=>?_) Zo;have HK4:=Za (H.out.below (HB3.out.trans (below_drw w3 |>.mono HB3.out.size)));go_simp;go_at_call 34;refine (dsee HK4.out (z:Int) HSEE.out.1 l HSEE.out.2.1 HSEE.out.2.2.1).mono ?_;rintro e w6 ⟨y,rfl,hy,ho,hk,hc⟩;have HK6:=hk;have HC6:=Za (p:=Chg [gd] w w6) ((Chg.of (F:=[gd]) (HB3.out.trans (below_drw w3 |>.mono HB3.out.size))).trans hc.out (fun x hx=>.inl hx));have HR46:=Za (hc.out.row HR43.out.drew (by have h1:=HLT.out;have h2:=HG4.out;simp;omega));have HR56:=Za (hc.out.row HR53.out.drew (by have h1:=HLT.out;have h2:=HG5.out;simp;omega));have HY:=hy;have HO:=ho;clear hy ho hk hc;refine hK.out _ _ trivial (fun _hH=>?_);clear hK K;refine Zp (rs:=[4]) (by kernel_rfl) (by simp) ?_;refine Zl (o:=⟨some 12,.call ⟨.builtin .copy,#[.tmp 8,.tmp 11],#[23,23]⟩,_,_,_,_⟩) rfl (fun K hK=>?_) Zo;have HRQ:=Za (p:=brr 256 (ov 0 (y.l.take 256) f0)=brr 256 (bfn (norm l))) (by rw [HY.out];exact ov_zero HSEE.out.2.2.2);refine k_copy (.tmp 8) (.tmp 11) 23 23 rfl 5 Tryz.underlying23 i2.out g5 0 256 256 256 110 f0 (by rfl) HR56.out y.A y.l.length y.c y.l (by rfl) rfl HO.out.hol (by have h1:Nat.min y.l.length 256≤256:=Nat.min_le_right _ _;omega) ?_;intro w7 kk hr7 hu7;have HR57:=Za (p:=Row w7 g5 110 (brr 256 (bfn (norm l)))) (by rw [← HRQ.out];exact hr7);have HC7:=Za (p:=Chg [gd] w w7) (chg_own HC6.out HG5.out.1 (Chg.one hu7.out.by_));have HK7:=Za (HK6.out.other HR56.out (by decide) (by have:=HLO.out;have:=HG5.out;omega) (Chg.one hu7.out.by_));have HR47:=Za (HR46.out.grown hu7.out.by_ (fun e=>by have:=HG5.out;injection e;omega));clear hr7 hu7;refine hK.out _ _ trivial (fun _hH=>?_);clear hK K;refine Yg (by kernel_rfl) ?_ _;obtain ⟨f1,hf1⟩:∃ f1,bfn (norm l)=f1:=⟨_,rfl⟩;have HF1:=Za hf1;rw [hf1] at HR57;clear hf1 HRQ
  go_wp2_with (first
    | (refine step_load rfl 13 rfl 110 (.tmp 5) rfl g5 rfl (brr 256 f1) _ HR57.out.all Tryz.underlying110 rfl (i1.out _) ?_)
    | (refine step_store rfl 110 (.tmp 4) (.tmp 13) rfl g4 (by rfl) _ _ (brr 256 f1) (by rfl) HR47.out (by rw [brr_len,brr_len]) (i1.out _) (brr_one _ _) ?_;intro w9 hr9 hg9 hs9))
  refine Yd (results_cell_row rfl _ _ g4 _ _ _ _ rfl hr9 Tryz.underlying110 rfl (by simpa using i1.out f1)) rfl ?_;exact ⟨by rw [HF1.out],Za (HK7.out.other HR47.out (by decide) (by have:=HLO.out;have:=HG4.out;omega) (Chg.one hg9)),Za (chg_own HC7.out HG4.out (Chg.one hg9))⟩
theorem dcontent (z:Nat) (f:Nat→UInt8) (h:DK b w gd gv gm gs r Bs N n X) (hc:Cont X Bs z f):Calls Tryz.prog 79 #[.pointer (some ⟨gd,0,none⟩),.int .i64 (z:Int)] w (DOne b w gd gv gm gs r Bs N n X (.agg (brr 256 f).toArray)):=by
  rcases hc with ⟨h1,rfl⟩ | ⟨h1,h2,l,h3,h4,h5,rfl⟩
  · exact dcontent_hole z h h1
  · exact dcontent_at z h ⟨h1,h2⟩ l h3 h4 h5
def CW (X:DX) (Bs:List BV) (z:Nat) (f:Nat→UInt8):Prop:=∃ g,Cont X Bs z g∧∀ j,j<256→g j=f j
theorem dcontentW (z:Nat) (f:Nat→UInt8) (h:DK b w gd gv gm gs r Bs N n X) (hc:CW X Bs z f):Calls Tryz.prog 79 #[.pointer (some ⟨gd,0,none⟩),.int .i64 (z:Int)] w (DOne b w gd gv gm gs r Bs N n X (.agg (brr 256 f).toArray)):=by
  obtain ⟨g,h1,h2⟩:=hc;have h3:=dcontent z g h h1;rw [brr_same h2] at h3;exact h3
end
end Go.Proofs.YtijffkklhgnknaaGreatDoor
