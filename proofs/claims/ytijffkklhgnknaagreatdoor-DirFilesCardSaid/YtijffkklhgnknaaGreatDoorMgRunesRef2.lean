/- The runes of a text, names and order by the reference, for every text of at most 2^40 bytes. No other conditions. -/
import Derived.Test.YtijffkklhgnknaaGreatDoorAz
import Derived.Test.YtijffkklhgnknaaGreatDoorMgFirst
import Derived.BigQuiet
import Derived.Deep.QuietTactic
import Derived.Test.YtijffkklhgnknaaGreatDoorMgNames
import Derived.Test.YtijffkklhgnknaaGreatDoorMgQn
import Derived.Test.YtijffkklhgnknaaGreatDoorMgRd
import Derived.Deep.Cut
set_option maxHeartbeats 20000000
set_option linter.unusedVariables false
namespace Go.Proofs.YtijffkklhgnknaaGreatDoor
open Go.RowKit
theorem info3:(Tryz.prog.info? 3).map (fun i=>(i.zero,i.size,i.bytes))=some (some (.int .i64 0),1,8):=by kernel_rfl
def ic (l:List Int):List Value:=l.map (Value.int .i64)
theorem ic_len (l:List Int):(ic l).length=l.length:=by simp [ic]
theorem ic_app (a b:List Int):ic (a++b)=ic a++ic b:=by simp [ic]
def HolI (w:World) (A:Option Addr) (l:List Int):Prop:=
  l=[]∨∃ g,A=some ⟨g,0,none⟩∧∀ j x,l[j]?=some x→w.cell? ⟨g,j,none⟩=some (.int .i64 x)
theorem HolI.at_ {w:World} {A:Option Addr} {l:List Int} (h:HolI w A l) {j:Nat} (hj:j<l.length):∃ g,A=some ⟨g,0,none⟩∧w.cell? ⟨g,j,none⟩=some (.int .i64 l[j]):=by
  rcases h with rfl | ⟨g,rfl,hc⟩
  · simp at hj
  · exact ⟨g,rfl,hc j _ (Zh hj)⟩
theorem HolI.below {w w':World} {A:Option Addr} {l:List Int} (h:HolI w A l) (hb:Below w.heap.size w w'):HolI w' A l:=by
  rcases h with rfl | ⟨g,rfl,hc⟩
  · exact .inl rfl
  · exact .inr ⟨g,rfl,fun j x hx=>(hb.cell (p:=⟨g,j,none⟩) (Ya w _ (hc j x hx))).trans (hc j x hx)⟩
theorem own_ints {w:World} {base:Nat} {e:TypeId} {v:Value} {n:Nat} {l:List Int} (h:w.ownsRow base e 1 v n (ic l)):
    n=l.length∧∃ A c,v=.slice A l.length c∧HolI w A l:=by
  have hn:n=l.length:=by have:=h.1;rw [ic_len] at this;omega
  subst hn;refine ⟨rfl,?_⟩;rcases h.2 with ⟨rfl,h0⟩ | ⟨g,cap,cur,rfl,hb,hg,hn,hc,hs,ht⟩
  · rw [h0];exact ⟨none,0,rfl,.inl (Zk h0)⟩
  · refine ⟨_,cap,rfl,.inr ⟨g,rfl,fun j x hx=>?_⟩⟩;have hx2:(ic l)[j]?=some (.int .i64 x):=by unfold ic;rw [List.getElem?_map,hx];rfl
    have:=h.cells (g:=g) rfl j _ hx2;rw [show (⟨g,j,none⟩:Addr)=(⟨g,0,none⟩:Addr).add j by unfold Addr.add;split <;> simp_all];exact this
theorem runes_any (s:ByteArray) (w:World) (hs:s.size≤1099511627776):
    Calls Tryz.prog 78 #[.string s] w fun e w'=>∃ v,e=.returned v∧w'.ownsRow w.heap.size 3 1 v (rl s.data.toList).length (ic (rl s.data.toList))∧Below w.heap.size w w':=by
  obtain ⟨i,hi,hz0,hz1,hz2⟩:=info_parts info3;have hlen:=rl_len s.data.toList;rw [← Lib.size_eq] at hlen;generalize hR:rl s.data.toList=R at*;have HR:=Za hR;clear hR;go_enter Tryz.func78,Tryz.ntmps78;go_wp2;go_loopw [0,3] (fun st v wr=>∃ (t:ByteArray) (xs:List Int),st=.string t∧t.size≤1099511627776∧Hid (xs++rl t.data.toList=R)∧wr.ownsRow w.heap.size 3 1 v xs.length (ic xs)∧Below w.heap.size w wr)
    (fun st _ _=>match st with | .string t=>t.size | _=>0)
  case atStart=>exact ⟨s,[],rfl,hs,Za HR.out,Ye _ _ _ _,Below.refl _ _⟩
  case round=>
    obtain ⟨t,xs,rfl,hts,hxs,hown,hb⟩:=hrel;have hxl:xs.length≤R.length:=by rw [← hxs.out,Zf];omega
    by_cases hp:0<t.size
    · have hpz:(0:Int)<(t.size:Int):=by omega
      have hne:t.data.toList≠[]:=by
        intro e;rw [Lib.size_eq,e] at hp;exact absurd hp (by decide)
      have cF:=fun W=>first_any t W hp (by omega);have hst:=rl_step _ hne;have hfit:=decodeL_fits _ hne;have hw1:=Lib.decodeL_width t.data.toList;rw [← Lib.size_eq] at hfit;rw [← fst_width] at hst hfit hw1;have hrg:=fst_range t.data.toList;generalize fst t.data.toList=d at*;obtain ⟨r,n⟩:=d;replace hfit:n≤t.size:=hfit;replace hw1:1≤n:=hw1;replace hrg: -1≤r∧r≤1114111:=hrg;replace hst:rl t.data.toList=r::rl (t.data.toList.drop n):=hst;replace cF:∀ W,Calls Tryz.prog 116 #[.string t] W fun e w'=>e=.returned (.tuple #[.int .i64 r,.int .i64 n])∧W=w':=cF;have HST:=Za hst;have CF:=Za cF;clear hst cF hne
      go_wp2_with (first
        | (go_at_call 116;refine (CF.out _).mono ?_;rintro e w' ⟨rfl,rfl⟩)
        | (at_builtin;refine wpList_append_own_at _ rfl _ _ 114 rfl w.heap.size 3 i (.int .i64 0) 1 8 Tryz.underlying114 hi hz0 hz1 hz2 rfl (by decide) _ xs.length _ rfl (hown.alloc _) ⟨wr.heap.size,0,none⟩ 1 1 [.int .i64 r] rfl rfl (cell_one_new _ _ _) (by intro u hu;simp at hu;subst hu;rfl) (by unfold maxLen;omega) (by omega) (by have:=hb.size;simp;omega) ?_;intro v2 w2 hown2 hg2 _ _))
      have hb2:Below w.heap.size w w2:=(hb.alloc hb.size _).grown hg2 (by have:=hb.size;simp;omega) (fun q hq=>(hown.lt q hq).1)
      have hxs2:Hid ((xs++[r])++rl (t.extract n t.size).data.toList=R):=by
        refine Za ?_;rw [Lib.extract_to_end,Zi, ← hxs.out,HST.out];rfl
      have hsz2:(t.extract n t.size).size=t.size - n:=by rw [Lib.size_eq,Lib.extract_to_end,Zs, ← Lib.size_eq]
      have hown3:w2.ownsRow w.heap.size 3 1 v2 (xs++[r]).length (ic (xs++[r])):=by
        rw [Zf,ic_app];exact hown2
      go_roundw
      case rel=>exact ⟨t.extract n t.size,xs++[r],rfl,by omega,hxs2,hown3,hb2⟩
      case measure=>
        simp;omega
    · have ht:t.data.toList=[]:=Zk (by rw [← Lib.size_eq];omega)
      have hx:xs=R:=by
        have:=hxs.out;rw [ht,rl_nil,Zy] at this;exact this
      subst hx;clear ht;go_wp2;go_ret;exact ⟨_,rfl,hown,hb⟩
theorem rname_short (s:ByteArray) (w:World) (h:s.data.toList=[]∨s.data.toList=[46]∨s.data.toList=[46,46]):
    Calls Tryz.prog 36 #[.string s] w fun e w'=>e=.returned (.int .i64 22)∧w=w':=by
  rcases h with h | h | h
  · have h1:=isEmpty_eq h;clear h;go_enter Tryz.func36,Tryz.ntmps36;go_wp2;go_ret;exact ⟨rfl,rfl⟩
  · have h1:s.toList.isEmpty=false:=isEmpty_ne (by rw [h];simp);have h2:=toList_eq_ h;clear h;go_enter Tryz.func36,Tryz.ntmps36;go_wp2;go_ret;exact ⟨rfl,rfl⟩
  · have h1:s.toList.isEmpty=false:=isEmpty_ne (by rw [h];simp);have h2:(s.toList==[46])=false:=toList_ne (by rw [h];simp);have h3:=toList_eq_ h;clear h;go_enter Tryz.func36,Tryz.ntmps36;go_wp2;go_ret;exact ⟨rfl,rfl⟩
theorem rname_go (s:ByteArray) (w:World) (h1:s.data.toList≠[]) (h2:s.data.toList≠[46]) (h3:s.data.toList≠[46,46]) (hs:s.size≤1099511627776):
    Calls Tryz.prog 36 #[.string s] w fun e w'=>e=.returned (.int .i64 (if (rl s.data.toList).all okI then (if 32<s.data.toList.length then 36 else 0) else 22))∧Below w.heap.size w w':=by
  have cR:=runes_any s w hs;have hlen:=rl_len s.data.toList;have k1:=isEmpty_ne h1;have k2:=toList_ne h2;have k3:=toList_ne h3;clear h1 h2 h3;rw [← Lib.size_eq] at hlen ⊢;generalize rl s.data.toList=xs at*;generalize hR:(if xs.all okI=true then (if 32<s.size then 36 else 0) else (22:Int))=R;have HR:=Za hR;have CR:=Za cR;clear hR cR;go_enter Tryz.func36,Tryz.ntmps36;go_wp2_with (go_at_call 78;refine CR.out.mono ?_;rintro e w1 ⟨v,rfl,hown1,hb1⟩;obtain ⟨_,A,c,rfl,hA⟩:=own_ints hown1);clear k1 k2 k3;go_loop [4] (fun i=>∃ k:Nat,k≤xs.length∧i=.int .i64 k∧Hid ((xs.take k).all okI=true)) (fun i=>xs.length - (intOf i).toNat)
  case atStart=>exact ⟨0,Nat.zero_le _,rfl,Za rfl⟩
  case round=>
    obtain ⟨k,hk,rfl,hall⟩:=hrel;by_cases hlt:k<xs.length
    · obtain ⟨g,rfl,hc⟩:=hA.at_ hlt;obtain ⟨r,hr⟩:∃ r,xs[k]=r:=⟨_,rfl⟩;rw [hr] at hc;have HX:=Za hr;clear hr;have hkz:(k:Int)<(xs.length:Int):=by omega
      cases hok:okI r
      · have hRv:R=22:=by
          rw [← HR.out,if_neg];intro e;have:=List.all_eq_true.1 e (xs[k]) (List.getElem_mem hlt);rw [HX.out,hok] at this;cases this
        subst hRv
        have h0:r<32∨r=47∨r=127:=by
          have hq:32≤r→¬ r=47→r=127:=by simpa [okI,or_assoc] using hok
          omega
        clear hok;rcases h0 with h0 | rfl | rfl
        · go_wp2;go_ret;exact ⟨rfl,hb1⟩
        · go_wp2;go_ret;exact ⟨rfl,hb1⟩
        · go_wp2;go_ret;exact ⟨rfl,hb1⟩
      · have h0:¬ (r<32∨r=47∨r=127):=by
          intro e;have hq:32≤r→¬ r=47→r=127:=by omega
          have:okI r=false:=by simpa [okI,or_assoc] using hq
          rw [hok] at this;cases this
        have ha:decide (r<32)=false:=by simp;omega
        have hb:(r==47)=false:=by simp;omega
        have hc2:(r==127)=false:=by simp;omega
        have hall2:Hid ((xs.take (k+1)).all okI=true):=by
          refine Za ?_;rw [List.take_succ_eq_append_getElem hlt,List.all_append,hall.out,HX.out];simp [hok]
        clear h0 hok;go_wp2;go_round
        case rel=>exact ⟨k+1,by omega,by go_num,hall2⟩
        case measure=>simp [intOf];omega
    · have hkk:k=xs.length:=by omega
      have hall3:xs.all okI=true:=by
        have:=hall.out;rw [hkk,List.take_length] at this;exact this
      subst hkk;by_cases h32:32<s.size
      · have hz:(32:Int)<(s.size:Int):=by omega
        have hRv:R=36:=by rw [← HR.out,if_pos hall3,if_pos h32]
        subst hRv;clear hall3 h32;go_wp2;go_ret;exact ⟨rfl,hb1⟩
      · have hz:¬ (32:Int)<(s.size:Int):=by omega
        have hRv:R=0:=by rw [← HR.out,if_pos hall3,if_neg h32]
        subst hRv;clear hall3 h32;go_wp2;go_ret;exact ⟨rfl,hb1⟩
theorem rname_any (s:ByteArray) (w:World) (hs:s.size≤1099511627776):
    Calls Tryz.prog 36 #[.string s] w fun e w'=>e=.returned (.int .i64 (nameR s.data.toList))∧Below w.heap.size w w':=by
  by_cases h:s.data.toList=[]∨s.data.toList=[46]∨s.data.toList=[46,46]
  · have hr:nameR s.data.toList=22:=by unfold nameR;rw [if_pos h]
    rw [hr];exact (rname_short s w h).mono fun e w' ⟨he,hw⟩=>⟨he,by rw [hw];exact Below.refl _ _⟩
  · have h':=h;simp only [not_or] at h';have hr:nameR s.data.toList=(if (rl s.data.toList).all okI then (if 32<s.data.toList.length then 36 else 0) else 22):=by unfold nameR;rw [if_neg h,ok_both]
    rw [hr];exact rname_go s w h'.1 h'.2.1 h'.2.2 hs
theorem fix_neg {r:Int} (h:r<0):fix_ r=65533:=by unfold fix_;rw [if_pos h]
theorem fix_pos {r:Int} (h:¬ r<0):(fix_ r:Int)=r:=by unfold fix_;rw [if_neg h];omega
theorem rless_any (a b:ByteArray) (w:World) (ha:a.size≤1099511627776) (hb:b.size≤1099511627776):
    Calls Tryz.prog 37 #[.string a,.string b] w fun e w'=>e=.returned (.bool (lessD a.data.toList b.data.toList))∧Below w.heap.size w w':=by
  have cA:=runes_any a w ha;have cB:=fun W=>runes_any b W hb;have la:=rl_len a.data.toList;have lb:=rl_len b.data.toList;rw [← Lib.size_eq] at la lb;unfold lessD;rw [← rl_dl, ← rl_dl];generalize rl a.data.toList=x at*;generalize rl b.data.toList=y at*;obtain ⟨ANS,hAns⟩:∃ ANS,lex (x.map fix_) (y.map fix_)=ANS:=⟨_,rfl⟩;rw [hAns];have HA:=Za hAns;have CA:=Za cA;have CB:=Za cB;clear hAns cA cB;have tok:(1:Nat)=1:=rfl;go_enter Tryz.func37,Tryz.ntmps37;go_wp2_with fail;refine CA.out.mono ?_;rintro e w1 ⟨v,rfl,hown1,hb1⟩;obtain ⟨_,A,c,rfl,hA⟩:=own_ints hown1;go_wp2_with fail;refine (CB.out w1).mono ?_;rintro e w2 ⟨v,rfl,hown2,hb2⟩;obtain ⟨_,B,d,rfl,hB⟩:=own_ints hown2;have hA2:=hA.below hb2;have hbw:Below w.heap.size w w2:=hb1.trans (hb2.mono hb1.size);clear hown1 hown2 hA;go_wp2;go_loop [7] (fun i=>∃ k:Nat,k≤x.length∧k≤y.length∧i=.int .i64 k∧Hid (lex ((x.map fix_).drop k) ((y.map fix_).drop k)=ANS)) (fun i=>x.length - (intOf i).toNat)
  case atStart=>exact ⟨0,Nat.zero_le _,Nat.zero_le _,rfl,Za HA.out⟩
  case round =>
    obtain ⟨k,hkx,hky,rfl,hans⟩:=hrel;by_cases hx:k<x.length
    · have hxz : (k:Int)<(x.length:Int):=by omega
      by_cases hy:k<y.length
      · have hyz :(k:Int)<(y.length:Int):=by omega
        obtain ⟨g,rfl,hc1⟩:=hA2.at_ hx;obtain ⟨g2,rfl,hc2⟩:=hB.at_ hy;have hst:=lex_drop (x.map fix_) (y.map fix_) k (by simpa using hx) (by simpa using hy);simp only [List.getElem_map] at hst;generalize x[k]=p at*;generalize y[k]=q at*;rw [hans.out] at hst;have HST:=Za hst;clear hst;by_cases hp:p<0
        · by_cases hq:q<0
          · have hans2:Hid (lex ((x.map fix_).drop (k+1)) ((y.map fix_).drop (k+1))=ANS):=by
              have:=HST.out;rw [fix_neg hp,fix_neg hq,if_neg (fun h=>h rfl)] at this;exact Za this.symm
            go_wp2;go_round
            case rel=>exact ⟨k+1,by omega,by omega,by go_num,hans2⟩
            case measure=>simp [intOf];omega
          · by_cases hpq:(65533:Int)=q
            · subst hpq
              have hans2:Hid (lex ((x.map fix_).drop (k+1)) ((y.map fix_).drop (k+1))=ANS):=by
                have:=HST.out;rw [fix_neg hp] at this;rw [if_neg (fun h=>h rfl)] at this;exact Za this.symm
              go_wp2;go_round
              case rel=>exact ⟨k+1,by omega,by omega,by go_num,hans2⟩
              case measure=>simp [intOf];omega
            · have hne:((65533:Int) !=q)=true:=by rw [bne_iff_ne];exact hpq
              have hAv:ANS=decide ((65533:Int)<q):=by
                have h1:=fix_pos hq;have:=HST.out;rw [fix_neg hp,if_pos (by omega)] at this;rw [this,Bool.eq_iff_iff];simp;omega
              subst hAv;clear hpq;go_wp2;go_ret;exact ⟨rfl,hbw⟩
        · by_cases hq:q<0
          · by_cases hpq:p=(65533:Int)
            · subst hpq
              have hans2:Hid (lex ((x.map fix_).drop (k+1)) ((y.map fix_).drop (k+1))=ANS):=by
                have:=HST.out;rw [fix_neg hq] at this;rw [if_neg (fun h=>h rfl)] at this;exact Za this.symm
              go_wp2;go_round
              case rel=>exact ⟨k+1,by omega,by omega,by go_num,hans2⟩
              case measure=>simp [intOf];omega
            · have hne:(p !=(65533:Int))=true:=by rw [bne_iff_ne];exact hpq
              have hAv:ANS=decide (p<(65533:Int)):=by
                have h1:=fix_pos hp;have:=HST.out;rw [fix_neg hq,if_pos (by omega)] at this;rw [this,Bool.eq_iff_iff];simp;omega
              subst hAv;clear hpq;go_wp2;go_ret;exact ⟨rfl,hbw⟩
          · by_cases hpq:p=q
            · subst hpq
              have hans2:Hid (lex ((x.map fix_).drop (k+1)) ((y.map fix_).drop (k+1))=ANS):=by
                have:=HST.out;rw [if_neg (fun h=>h rfl)] at this;exact Za this.symm
              go_wp2;go_round
              case rel=>exact ⟨k+1,by omega,by omega,by go_num,hans2⟩
              case measure=>simp [intOf];omega
            · have hne:(p !=q)=true:=by rw [bne_iff_ne];exact hpq
              have hAv:ANS=decide (p<q):=by
                have h1:=fix_pos hp;have h2:=fix_pos hq;have:=HST.out;rw [if_pos (by omega)] at this;rw [this,Bool.eq_iff_iff];simp;omega
              subst hAv;clear hpq;go_wp2;go_ret;exact ⟨rfl,hbw⟩
      · have hAv:ANS=decide ((x.length:Int)<(y.length:Int)):=by
          have h2:=lex_end (x.map fix_) (y.map fix_) k (.inr (by simp;omega)) (by simpa using hkx) (by simpa using hky);rw [hans.out] at h2;rw [h2,Bool.eq_iff_iff];simp
        subst hAv;have hyz:¬ (k:Int)<(y.length:Int):=by omega
        go_wp2;go_ret;exact ⟨rfl,hbw⟩
    · have hAv:ANS=decide ((x.length:Int)<(y.length:Int)):=by
        have h2:=lex_end (x.map fix_) (y.map fix_) k (.inl (by simp;omega)) (by simpa using hkx) (by simpa using hky);rw [hans.out] at h2;rw [h2,Bool.eq_iff_iff];simp
      subst hAv;have hxz:decide ((k:Int)<(x.length:Int))=false:=by simp;omega
      go_wp2;go_ret;exact ⟨rfl,hbw⟩
/- Entries compared. No conditions. -/
set_option maxRecDepth 20000
def eqE (x y:Ent):Bool:=(x.nm.toList==y.nm.toList) && (((x.ino==y.ino) && (((x.ser:Int)==(y.ser:Int)) && true)) && ((x.kind==y.kind) && (((x.ck:Int)==(y.ck:Int)) && true)))
theorem eqE_refl (x:Ent):eqE x x=true:=by simp [eqE]
section
variable {w:World}
theorem part_intD {t:TypeId} {k:IntKind} (ht:Tryz.prog.underlying t=some (.int k)) {cs:Array Value} {o:Nat} {v:Value} (h:cs[o]?=some v):(part t cs o).run Tryz.prog w=.ok v w:=by
  simp [part,isAgg,run_underlying ht,h]
theorem part_string {t:TypeId} (ht:Tryz.prog.underlying t=some .string) {cs:Array Value} {o:Nat} {v:Value} (h:cs[o]?=some v):(part t cs o).run Tryz.prog w=.ok v w:=by
  simp [part,isAgg,run_underlying ht,h]
theorem part_strD {t:TypeId} {fs:Array Field} (ht:Tryz.prog.underlying t=some (.struct fs)) {m:Nat} (hs:(Tryz.prog.info? t).map (·.size)=some m) (cs:Array Value) (o:Nat):(part t cs o).run Tryz.prog w=.ok (.agg (cs.extract o (o+m))) w:=by
  simp [part,isAgg,run_underlying ht,size_ofD hs]
theorem eqf_consD (d:Nat) (xs ys:Array Value) (f:Field) (fs:List Field) (b r:Bool) (hn:f.name≠ "_") (u v:Value)
    (hp:(part f.type xs f.offset).run Tryz.prog w=.ok u w) (hq:(part f.type ys f.offset).run Tryz.prog w=.ok v w) (he:(Op.equalIn d f.type u v).run Tryz.prog w=.ok b w)
    (hr:(Op.eqFields d xs ys fs).run Tryz.prog w=.ok r w):(Op.eqFields d xs ys (f::fs)).run Tryz.prog w=.ok (b && r) w:=by
  simp only [Op.eqFields,Sem.run_bind,Sem.run_ite,hp,hq,he,Zw,Sem.run_pure,hr];cases b <;> simp [hn]
theorem eqf_intD (d:Nat) (xs ys:Array Value) (f:Field) (fs:List Field) (r:Bool) (o:Nat) (t:TypeId) (nm:String) (k:IntKind) (x y:Int) (hf:f.name=nm∧f.type=t∧f.offset=o) (hn:nm≠ "_") (ht:Tryz.prog.underlying t=some (.int k)) (hx:xs[o]?=some (.int k x)) (hy:ys[o]?=some (.int k y))
    (hr:(Op.eqFields (d+1) xs ys fs).run Tryz.prog w=.ok r w):(Op.eqFields (d+1) xs ys (f::fs)).run Tryz.prog w=.ok ((x==y) && r) w:=by
  obtain ⟨h1,h2,h3⟩:=hf;refine eqf_consD (d+1) xs ys f fs _ r (by rw [h1];exact hn) (.int k x) (.int k y) ?_ ?_ ?_ hr
  · rw [h2,h3];exact part_intD ht hx
  · rw [h2,h3];exact part_intD ht hy
  · rw [h2];exact run_equalIn_int (P:=Tryz.prog) w d t k k x y ht
theorem ref_fields:((Tryz.prog.fieldsOf 36).toList.map fun f=>(f.name,f.type,f.offset))=[("Ino",3,0),("Serial",34,1)]:=by kernel_rfl
theorem ref_held:Tryz.prog.stoodInHeld 36=false:=by kernel_rfl
theorem ref_under:Tryz.prog.underlying 36=some (.struct (Tryz.prog.fieldsOf 36)):=by kernel_rfl
theorem eq_ref (d:Nat) (i s j t:Int):(Op.equalIn (d+2) 36 (.agg #[.int .i64 i,.int .u64 s]) (.agg #[.int .i64 j,.int .u64 t])).run Tryz.prog w=.ok ((i==j) && ((s==t) && true)) w:=by
  rw [run_equalIn_struct w (d+1) _ _ _ ref_under ref_held];have hf:=ref_fields;generalize (Tryz.prog.fieldsOf 36).toList=fs at hf;rcases fs with _ | ⟨f0,_ | ⟨f1,_ | ⟨f2,r⟩⟩⟩ <;> simp only [List.map_cons,List.map_nil,List.cons.injEq,Prod.mk.injEq,and_true,reduceCtorEq,and_false] at hf
  obtain ⟨h0,h1⟩:=hf;refine eqf_intD d _ _ f0 _ _ 0 _ _ .i64 i j h0 (by decide) Tryz.underlying3 rfl rfl ?_;refine eqf_intD d _ _ f1 _ _ 1 _ _ .u64 s t h1 (by decide) Tryz.underlying34 rfl rfl ?_;simp [Op.eqFields]
theorem ent_fields:((Tryz.prog.fieldsOf 61).toList.map fun f=>(f.name,f.type,f.offset))=[("Name",9,0),("Ref",36,1),("Kind",3,3),("Cookie",40,4)]:=by kernel_rfl
theorem ent_held:Tryz.prog.stoodInHeld 61=false:=by kernel_rfl
theorem ent_guard:Tryz.prog.eqGuardType Tryz.prog.depth 61=false:=by kernel_rfl
theorem ent_under:Tryz.prog.underlying 61=some (.struct (Tryz.prog.fieldsOf 61)):=by kernel_rfl
theorem info_refD:(Tryz.prog.info? 36).map (·.size)=some 2:=by kernel_rfl
theorem eq_ent (d:Nat) (x y:Ent):(Op.equalIn (d+3) 61 (.agg (ecs x).toArray) (.agg (ecs y).toArray)).run Tryz.prog w=.ok (eqE x y) w:=by
  rw [run_equalIn_struct w (d+2) _ _ _ ent_under ent_held];have hf:=ent_fields;generalize (Tryz.prog.fieldsOf 61).toList=fs at hf;rcases fs with _ | ⟨f0,_ | ⟨f1,_ | ⟨f2,_ | ⟨f3,_ | ⟨f4,r⟩⟩⟩⟩⟩ <;> simp only [List.map_cons,List.map_nil,List.cons.injEq,Prod.mk.injEq,and_true,reduceCtorEq,and_false] at hf
  obtain ⟨h0,h1,h2,h3⟩:=hf;unfold eqE;refine eqf_consD (d+2) _ _ f0 _ _ _ (by rw [h0.1];decide) (.string x.nm) (.string y.nm) ?_ ?_ ?_ ?_
  · rw [h0.2.1,h0.2.2];exact part_string Tryz.underlying9 rfl
  · rw [h0.2.1,h0.2.2];exact part_string Tryz.underlying9 rfl
  · rw [h0.2.1];exact run_equalIn_string (P:=Tryz.prog) w (d+1) _ _ _ Tryz.underlying9
  refine eqf_consD (d+2) _ _ f1 _ _ _ (by rw [h1.1];decide) (.agg #[.int .i64 x.ino,.int .u64 (x.ser:Int)]) (.agg #[.int .i64 y.ino,.int .u64 (y.ser:Int)]) ?_ ?_ ?_ ?_
  · rw [h1.2.1,h1.2.2];exact part_strD ref_under info_refD _ _
  · rw [h1.2.1,h1.2.2];exact part_strD ref_under info_refD _ _
  · rw [h1.2.1];exact eq_ref d _ _ _ _
  refine eqf_intD (d+1) _ _ f2 _ _ 3 _ _ .i64 x.kind y.kind h2 (by decide) Tryz.underlying3 rfl rfl ?_;refine eqf_intD (d+1) _ _ f3 _ _ 4 _ _ .u32 (x.ck:Int) (y.ck:Int) h3 (by decide) Tryz.underlying40 rfl rfl ?_;simp [Op.eqFields]
end
theorem run_neq_ent (w:World) {a:Act} (o:Oper) (t':TypeId) (x y:Operand) (ho:o.op=.binOp .neq 61 x y t') (p q:Ent) (hx:a.eval x=.agg (ecs p).toArray) (hy:a.eval y=.agg (ecs q).toArray):(execOp a.eval o).run Tryz.prog w=.ok (.value (.bool (!(eqE p q)))) w:=by
  unfold execOp;simp only [ho,hx,hy,Sem.run_bind,run_eqGuard_agg w _ 61 x y _ _ ent_guard,run_neq_struct,eq_ent 9997,Zw];rfl
/- The reference's Lists:two lists of the same entries are the same. Conditions:no more than a million entries. -/
theorem st_load_rng {P:Program} {ops:Array Oper} {o:Oper} {a:Act} {w:World} {Q:Exit→Act→World→Prop} {K:Act→World→Prop} {E:Prop} (hw:Region.wanted o (yielded ops a.tmps)=true) (ty:TypeId) (x:Operand) (ho:o.op=.load ty x) (g off:Nat) (hx:a.eval x=.pointer (some ⟨g,off,none⟩)) (cs:List Value) (dd:TypeDesc)
    (hr:w.rangeAt g off cs) (hu:P.underlying ty=some dd) (hdd:dd.isRow=true) (hi:(P.info? ty).map (·.size)=some cs.length) (h:K (a.put o.dst (.agg cs.toArray)) w):if Region.wanted o (yielded ops a.tmps)=true then Oper.wp P o a w K Q else E:=by
  rw [if_pos hw];exact wp_load_mid ty x ho g off hx cs dd hr hu hdd hi h
theorem rng_drw {w:World} {g o:Nat} {cs:List Value} (h:w.rangeAt g o cs):w.drew.rangeAt g o cs:=fun j v hv=>h j v hv
theorem neq_same (w:World) {a:Act} (o:Oper) (t':TypeId) (x y:Operand) (ho:o.op=.binOp .neq 61 x y t') (p:Ent) (hx:a.eval x=.agg (ecs p).toArray) (hy:a.eval y=.agg (ecs p).toArray):(execOp a.eval o).run Tryz.prog w=.ok (.value (.bool false)) w:=by
  have h:=run_neq_ent w o t' x y ho p p hx hy;rwa [eqE_refl] at h
theorem lists_same (A B:Option Addr) (n c d:Nat) (X:List Ent) (hmax:n≤1000000) (hn:X.length=n) (w:World) (hA:Lies ecs 5 w A X) (hB:Lies ecs 5 w B X):
    Calls Tryz.prog 18 #[.slice A n c,.slice B n d] w fun e w'=>e=.returned (.bool true)∧Below w.heap.size w w':=by
  have H1:=Za hA;have H2:=Za hB;have HN:=Za (And.intro hmax hn);clear hA hB hmax hn;go_enter Tryz.func18,Tryz.ntmps18;go_wp2;go_loopw [5] (fun x wr=>∃ k:Nat,Hid (k≤n)∧x=.int .i64 (k:Int)∧Hid (Below w.heap.size w wr)) (fun x _=>n - (intOf x).toNat)
  case atStart=>exact ⟨0,Za (Nat.zero_le _),rfl,Za (Below.refl _ _)⟩
  case round=>
    obtain ⟨k,HKL,rfl,HB⟩:=hrel
    rename World=>wr;by_cases hk:k<n
    · have hki:(k:Int)<(n:Int):=by omega
      have hkw:IntKind.i64.wrap ((k:Int)+1)=(k:Int)+1:=by rw [Zg];have:=HN.out;omega
      have hkx:k<X.length:=by have:=HN.out;omega
      obtain ⟨ga,oa,rfl,hc⟩:=(H1.out.below HB.out).at_ hkx
      obtain ⟨gb,ob,rfl,hd⟩:=(H2.out.below HB.out).at_ hkx
      obtain ⟨x,hx⟩:∃ x,X[k]=x:=⟨_,rfl⟩;rw [hx] at hc hd;have HRa:=Za (p:=wr.drew.rangeAt ga (oa+k*5) (ecs x)) (rng_drw fun i u hu=>hc i u hu);have HRb:=Za (p:=wr.drew.rangeAt gb (ob+k*5) (ecs x)) (rng_drw fun i u hu=>hd i u hu);have HK:=Za hk;clear hc hd hx hkx hk;go_upto_region 6 with fail
      refine Zq (S:=fun _=>True) (by kernel_rfl) trivial (fun hHeld=>?_);refine Ze (i:=0) (oi:=⟨some 17,.move (.tmp 0),_,_,_,_⟩) (v:=.slice (some ⟨ga,oa,none⟩) n c) rfl (by kernel_rfl) (by kernel_rfl) (by kernel_rfl) (fun _ _ _ h=>h) (.inl ⟨by rfl,fun w hSw=>by go_simp⟩) (by assumption) ?_;simp only [Act.put,Zb,Zc,Zd];refine Ze (i:=1) (oi:=⟨some 18,.move (.tmp 5),_,_,_,_⟩) (v:=.int .i64 (k:Int)) rfl (by kernel_rfl) (by kernel_rfl) (by kernel_rfl) (fun _ _ _ h=>h) (.inl ⟨by rfl,fun w hSw=>by go_simp⟩) (by assumption) ?_;simp only [Act.put,Zb,Zc,Zd];refine Ze (i:=2) (oi:=⟨some 19,.indexAddr 46 (.tmp 17) (.tmp 18),_,_,_,_⟩) (v:=.pointer (some ⟨ga,oa+k*5,none⟩)) rfl (by kernel_rfl) (by kernel_rfl) (by kernel_rfl) (fun _ _ _ h=>h) (.inl ⟨by rfl,fun w hSw=>by go_simp⟩) (by assumption) ?_;simp only [Act.put,Zb,Zc,Zd];refine Ze (i:=4) (oi:=⟨some 21,.move (.tmp 1),_,_,_,_⟩) (v:=.slice (some ⟨gb,ob,none⟩) n d) rfl (by kernel_rfl) (by kernel_rfl) (by kernel_rfl) (fun _ _ _ h=>h) (.inl ⟨by rfl,fun w hSw=>by go_simp⟩) (by assumption) ?_;simp only [Act.put,Zb,Zc,Zd];refine Ze (i:=5) (oi:=⟨some 22,.move (.tmp 5),_,_,_,_⟩) (v:=.int .i64 (k:Int)) rfl (by kernel_rfl) (by kernel_rfl) (by kernel_rfl) (fun _ _ _ h=>h) (.inl ⟨by rfl,fun w hSw=>by go_simp⟩) (by assumption) ?_;simp only [Act.put,Zb,Zc,Zd];refine Ze (i:=6) (oi:=⟨some 23,.indexAddr 46 (.tmp 21) (.tmp 22),_,_,_,_⟩) (v:=.pointer (some ⟨gb,ob+k*5,none⟩)) rfl (by kernel_rfl) (by kernel_rfl) (by kernel_rfl) (fun _ _ _ h=>h) (.inl ⟨by rfl,fun w hSw=>by go_simp⟩) (by assumption) ?_;simp only [Act.put,Zb,Zc,Zd];refine Zp (rs:=[3,7]) (by kernel_rfl) (by simp) ?_;refine Zl (o:=⟨some 20,.load 61 (.tmp 19),_,_,_,_⟩) rfl (fun K hK=>?_) (Zl (o:=⟨some 24,.load 61 (.tmp 23),_,_,_,_⟩) rfl (fun K hK=>?_) Zo)
      · skip;refine st_load_rng (by rfl) 61 (.tmp 19) rfl ga (oa+k*5) rfl (ecs x) _ HRa.out Yi rfl (info_ent x) ?_;refine hK.out _ _ trivial (fun _hs=>?_);clear hK K;refine Zp (rs:=[7]) (by kernel_rfl) (by simp) ?_;refine Zl (o:=⟨some 24,.load 61 (.tmp 23),_,_,_,_⟩) rfl (fun K hK=>?_) Zo;refine st_load_rng (by rfl) 61 (.tmp 23) rfl gb (ob+k*5) rfl (ecs x) _ HRb.out Yi rfl (info_ent x) ?_;refine hK.out _ _ trivial (fun _hs=>?_);clear hK K;refine Ze (i:=8) (oi:=⟨some 25,.binOp .neq 61 (.tmp 20) (.tmp 24) 61,_,_,_,_⟩) (v:=.bool false) rfl (by kernel_rfl) (by kernel_rfl) (by kernel_rfl) (fun _ _ _ h=>h) (.inl ⟨by rfl,fun w hSw=>neq_same w _ _ _ _ rfl x rfl rfl⟩) (by assumption) ?_;simp only [Act.put,Zb,Zc,Zd];refine Yg (by kernel_rfl) ?_ _;go_wp2_with fail;go_roundw
        case rel=>exact ⟨k+1,Za HK.out,by go_num,Za (below_nxt (below_drw wr) HB.out)⟩
        case measure=>have:=HK.out;simp [intOf];omega
      · skip;refine st_load_rng (by rfl) 61 (.tmp 23) rfl gb (ob+k*5) rfl (ecs x) _ HRb.out Yi rfl (info_ent x) ?_;refine hK.out _ _ trivial (fun _hs=>?_);clear hK K;refine Zp (rs:=[3]) (by kernel_rfl) (by simp) ?_;refine Zl (o:=⟨some 20,.load 61 (.tmp 19),_,_,_,_⟩) rfl (fun K hK=>?_) Zo;refine st_load_rng (by rfl) 61 (.tmp 19) rfl ga (oa+k*5) rfl (ecs x) _ HRa.out Yi rfl (info_ent x) ?_;refine hK.out _ _ trivial (fun _hs=>?_);clear hK K;refine Ze (i:=8) (oi:=⟨some 25,.binOp .neq 61 (.tmp 20) (.tmp 24) 61,_,_,_,_⟩) (v:=.bool false) rfl (by kernel_rfl) (by kernel_rfl) (by kernel_rfl) (fun _ _ _ h=>h) (.inl ⟨by rfl,fun w hSw=>neq_same w _ _ _ _ rfl x rfl rfl⟩) (by assumption) ?_;simp only [Act.put,Zb,Zc,Zd];refine Yg (by kernel_rfl) ?_ _;go_wp2_with fail;go_roundw
        case rel=>exact ⟨k+1,Za HK.out,by go_num,Za (below_nxt (below_drw wr) HB.out)⟩
        case measure=>have:=HK.out;simp [intOf];omega
    · have hki:¬ (k:Int)<(n:Int):=by omega
      clear hk;go_wp2;go_ret;exact ⟨rfl,HB.out⟩
end Go.Proofs.YtijffkklhgnknaaGreatDoor
