/- Names and the order of texts, by the program: what each call leaves, for every text. Condition: the library's two tables hold what their initialisers lay. -/
import Derived.Test.YtijffkklhgnknaaGreatDoorAz
import Derived.Test.YtijffkklhgnknaaGreatDoorChecked
import Derived.Test.YtijffkklhgnknaaGreatDoorMgMem
import Derived.Test.YtijffkklhgnknaaGreatDoorMgChg
import Derived.Test.YtijffkklhgnknaaGreatDoorShelf
import Derived.WalkKit
import Derived.WalkMore
import Derived.WalkSpells
import Derived.WalkLawsBesides
import Derived.WalkSmall
import Derived.Handy
import Derived.Lib.OthersKept
import Derived.Outline
set_option maxHeartbeats 20000000
set_option linter.unusedVariables false
namespace Go.Proofs.YtijffkklhgnknaaGreatDoor
open Go.RowKit
def Tabs (w:World):Prop:=Lib.Utf8Tabs 1 2 w
theorem maybe_yes (c:Nat) (w:World) (h:okR c=true) (hc:c≤1114111):Calls Tryz.prog 138 #[.int .i32 c] w fun e w'=>e=.returned (.bool true)∧w=w':=by
  have h0:32≤c∧c≠47∧c≠127:=by simpa [okR,and_assoc] using h
  have h1:(32:Int)≤(c:Int):=by omega
  have h2:((c:Int) !=47)=true:=by rw [bne_iff_ne];omega
  have h3:((c:Int) !=127)=true:=by rw [bne_iff_ne];omega
  clear h h0;go_enter Tryz.func138,Tryz.ntmps138;go_wp2;go_ret;exact ⟨rfl,rfl⟩
theorem maybe_no (c:Nat) (w:World) (h:okR c=false) (hc:c≤1114111):Calls Tryz.prog 138 #[.int .i32 c] w fun e w'=>e=.returned (.bool false)∧w=w':=by
  have h0:¬ (32≤c∧c≠47∧c≠127):=by
    intro hh;have:okR c=true:=by simpa [okR,and_assoc] using hh
    rw [this] at h;cases h
  by_cases k1:c<32
  · have h1:¬ (32:Int)≤(c:Int):=by omega
    have h2:decide ((32:Int)≤(c:Int))=false:=by simp;omega
    clear h h0;go_enter Tryz.func138,Tryz.ntmps138;go_wp2;go_ret;exact ⟨rfl,rfl⟩
  by_cases k2:c=47
  · subst k2;clear h h0;go_enter Tryz.func138,Tryz.ntmps138;go_wp2;go_ret;exact ⟨rfl,rfl⟩
  obtain rfl:c=127:=by omega
  clear h h0;go_enter Tryz.func138,Tryz.ntmps138;go_wp2;go_ret;exact ⟨rfl,rfl⟩
theorem toList_ne {s:ByteArray} {l:List UInt8} (h:s.data.toList≠l):(s.toList==l)=false:=by
  rw [Lib.toList_data];simpa using h
theorem toList_eq_ {s:ByteArray} {l:List UInt8} (h:s.data.toList=l):(s.toList==l)=true:=by
  rw [Lib.toList_data];simpa using h
theorem isEmpty_ne {s:ByteArray} (h:s.data.toList≠[]):s.toList.isEmpty=false:=by
  rw [Lib.toList_data];simpa using h
theorem isEmpty_eq {s:ByteArray} (h:s.data.toList=[]):s.toList.isEmpty=true:=by
  rw [Lib.toList_data,h];rfl
theorem name_short (s:ByteArray) (w:World) (h:s.data.toList=[]∨s.data.toList=[46]∨s.data.toList=[46,46]):
    Calls Tryz.prog 123 #[.string s] w fun e w'=>e=.returned (.int .i64 22)∧w=w':=by
  rcases h with h | h | h
  · have h1:=isEmpty_eq h;clear h;go_enter Tryz.func123,Tryz.ntmps123;go_wp2;go_ret;exact ⟨rfl,rfl⟩
  · have h1:s.toList.isEmpty=false:=isEmpty_ne (by rw [h];simp);have h2:=toList_eq_ h;clear h;go_enter Tryz.func123,Tryz.ntmps123;go_wp2;go_ret;exact ⟨rfl,rfl⟩
  · have h1:s.toList.isEmpty=false:=isEmpty_ne (by rw [h];simp);have h2:(s.toList==[46])=false:=toList_ne (by rw [h];simp);have h3:=toList_eq_ h;clear h;go_enter Tryz.func123,Tryz.ntmps123;go_wp2;go_ret;exact ⟨rfl,rfl⟩
theorem name_bad (s:ByteArray) (w:World) (h1:s.data.toList≠[]) (h2:s.data.toList≠[46]) (h3:s.data.toList≠[46,46]) (hv:Lib.validD s.data.toList=false) (hs:s.size≤9223372036854775807) (hT:Tabs w):
    Calls Tryz.prog 123 #[.string s] w fun e w'=>e=.returned (.int .i64 22)∧Below w.heap.size w w':=by
  have cV:=Tryz.utf8_ValidString s w hs hT;rw [hv] at cV;have k1:=isEmpty_ne h1;have k2:=toList_ne h2;have k3:=toList_ne h3;clear h1 h2 h3 hv;go_enter Tryz.func123,Tryz.ntmps123;go_wp2_with (go_at_call 137;refine cV.mono ?_;rintro e w1 ⟨rfl,hb1⟩);go_ret;exact ⟨rfl,hb1⟩
theorem below_iter {B:Nat} {w w1:World} (h:Below B w w1) (hB:B≤w1.heap.size) (s:ByteArray) (p:Nat):Below B w (w1.iter s p):=h.alloc hB _
theorem name_good (s:ByteArray) (w:World) (h1:s.data.toList≠[]) (h2:s.data.toList≠[46]) (h3:s.data.toList≠[46,46]) (hv:Lib.validD s.data.toList=true) (hs:s.size≤9223372036854775807) (hT:Tabs w):
    Calls Tryz.prog 123 #[.string s] w fun e w'=>e=.returned (.int .i64 (if (dlD s.data.toList).all okR then (if 32<s.data.toList.length then 36 else 0) else 22))∧Below w.heap.size w w':=by
  have cV:=Tryz.utf8_ValidString s w hs hT;rw [hv] at cV;have k1:=isEmpty_ne h1;have k2:=toList_ne h2;have k3:=toList_ne h3;clear h1 h2 h3 hv;rw [← Lib.size_eq];obtain ⟨ANS,hA⟩:∃ ANS,(dlD s.data.toList).all okR=ANS:=⟨_,rfl⟩;rw [hA];generalize hR:(if ANS=true then (if 32<s.size then 36 else 0) else (22:Int))=R;have HR:=Za hR;have HA:=Za hA;clear hA hR;go_enter Tryz.func123,Tryz.ntmps123;go_wp2_with (go_at_call 137;refine cV.mono ?_;rintro e w1 ⟨rfl,hb1⟩);clear cV k1 k2 k3;go_loopw [4] (fun _ wr=>∃ pos:Nat,wr=w1.iter s pos∧Hid ((dlD (s.data.toList.drop pos)).all okR=ANS)) (fun _ wr=>s.size - wr.iterPos w1.heap.size)
  case atStart=>exact ⟨0,rfl,Za HA.out⟩
  case round=>
    obtain ⟨pos,rfl,hans⟩:=hrel;by_cases hp:pos<s.size
    · have hnx:∀ ty,(Instr.next (.pointer (some ⟨w1.heap.size,0,none⟩)) true ty).run Tryz.prog (w1.iter s pos)=_:=fun ty=>run_next_any w1 s pos ty hp
      have hne:s.data.toList.drop pos≠[]:=by
        intro e;have:=congrArg List.length e;rw [Zs, ← Lib.size_eq] at this;simp at this;omega
      have hdd:=Lib.decodeL_drop s pos;have hst:=dl_step _ hne;rw [hdd] at hst;have hc:=Lib.rune_le s pos;have hwd:=Lib.width_pos s pos;clear hdd hne;generalize hd:Utf8.decode s pos=d at*;obtain ⟨c,n⟩:=d;replace hc:c≤1114111:=hc;replace hwd:1≤n:=hwd;have HST:=Za hst;clear hst hd;cases hok:okR c
      · have cM:=fun W=>maybe_no c W hok hc
        have hA:ANS=false:=by
          rw [← hans.out,HST.out];simp [hok]
        have hR:R=22:=by rw [← HR.out,hA];rfl
        subst hR;clear hok hA;go_wp2_with (go_at_call 138;refine (cM _).mono ?_;rintro e w' ⟨rfl,rfl⟩);go_ret;exact ⟨rfl,below_iter hb1 hb1.size s _⟩
      · have cM:=fun W=>maybe_yes c W hok hc
        have hans2:Hid ((dlD (s.data.toList.drop (pos+n))).all okR=ANS):=by
          have:=hans.out;rw [HST.out,List.all_cons,hok,Bool.true_and,List.drop_drop] at this;exact this
        clear hok;go_wp2_with (go_at_call 138;refine (cM _).mono ?_;rintro e w' ⟨rfl,rfl⟩);go_roundw
        case rel=>exact ⟨pos+n,rfl,hans2⟩
        case measure=>
          simp;omega
    · have hnx:∀ ty,(Instr.next (.pointer (some ⟨w1.heap.size,0,none⟩)) true ty).run Tryz.prog (w1.iter s pos)=_:=fun ty=>run_next_end w1 s pos ty hp
      have hA:ANS=true:=by
        rw [← hans.out,List.drop_eq_nil_of_le (by rw [← Lib.size_eq];omega)];rfl
      by_cases h32:32<s.size
      · have hz:(32:Int)<(s.size:Int):=by omega
        have hR:R=36:=by rw [← HR.out,hA,if_pos rfl,if_pos h32]
        subst hR;clear hA h32;go_wp2;go_ret;exact ⟨rfl,below_iter hb1 hb1.size s _⟩
      · have hz:¬ (32:Int)<(s.size:Int):=by omega
        have hR:R=0:=by rw [← HR.out,hA,if_pos rfl,if_neg h32]
        subst hR;clear hA h32;go_wp2;go_ret;exact ⟨rfl,below_iter hb1 hb1.size s _⟩
theorem name_any (s:ByteArray) (w:World) (hs:s.size≤9223372036854775807) (hT:Tabs w):
    Calls Tryz.prog 123 #[.string s] w fun e w'=>e=.returned (.int .i64 (nameR s.data.toList))∧Below w.heap.size w w':=by
  by_cases h:s.data.toList=[]∨s.data.toList=[46]∨s.data.toList=[46,46]
  · have hr:nameR s.data.toList=22:=by unfold nameR;rw [if_pos h]
    rw [hr];exact (name_short s w h).mono fun e w' ⟨he,hw⟩=>⟨he,by rw [hw];exact Below.refl _ _⟩
  · have h':=h;simp only [not_or] at h';cases hv:Lib.validD s.data.toList
    · have hr:nameR s.data.toList=22:=by unfold nameR;rw [if_neg h,hv];rfl
      rw [hr];exact name_bad s w h'.1 h'.2.1 h'.2.2 hv hs hT
    · have hr:nameR s.data.toList=(if (dlD s.data.toList).all okR then (if 32<s.data.toList.length then 36 else 0) else 22):=by unfold nameR;rw [if_neg h,hv,Bool.true_and]
      rw [hr];exact name_good s w h'.1 h'.2.1 h'.2.2 hv hs hT
/- The order of texts,by the program,for every two texts. Condition:the library's two tables hold what their initialisers lay. -/
theorem tabs_below {w w':World} (h:Tabs w) (hb:Below w.heap.size w w'):Tabs w':=Utf8Tabs_below h hb
theorem decode_go (t:ByteArray) (h:t.data.toList≠[]):Lib.decodeGo t=Lib.decodeL t.data.toList:=by
  have hs:t.size≠0:=by
    intro e;apply h;have:=Lib.size_eq t;exact Zk (by omega)
  unfold Lib.decodeGo;rw [if_neg hs];have:=Lib.decodeL_drop t 0;rw [List.drop_zero] at this;exact this.symm
theorem next_above {w wr:World} {a:ByteArray} {p q:Nat} (hk:wr.heap[w.heap.size]?=some (.stringIter a p)) (hb:Below w.heap.size w wr):
    Below w.heap.size w (wr.iterAt w.heap.size a q)∧(wr.iterAt w.heap.size a q).heap[w.heap.size]?=some (.stringIter a q):=
  ⟨Lib.below_iterAt hb (Zj _) a q,Lib.iterAt_heap wr _ a p q hk⟩
theorem iter_kept {w W:World} {o:Obj} {k:Nat} (hk:w.heap[k]?=some o) (hb:Below w.heap.size w W):W.heap[k]?=some o:=
  (hb.block k (Array.getElem?_eq_some_iff.1 hk).1).trans hk
theorem less_any (a b:ByteArray) (w:World) (ha:a.size≤9223372036854775807) (hb:b.size≤9223372036854775807) (hT:Tabs w):
    Calls Tryz.prog 124 #[.string a,.string b] w fun e w'=>e=.returned (.bool (lessD a.data.toList b.data.toList))∧Below w.heap.size w w':=by
  obtain ⟨ANS,hA⟩:∃ ANS,lessD a.data.toList b.data.toList=ANS:=⟨_,rfl⟩;rw [hA];have HA:=Za hA;clear hA;go_enter Tryz.func124,Tryz.ntmps124;go_wp2;go_loopw [1] (fun sb wr=>∃ (pos:Nat) (t:ByteArray),sb=.string t∧wr.heap[w.heap.size]?=some (.stringIter a pos)∧Below w.heap.size w wr∧t.size≤9223372036854775807∧Hid (lex (dlD (a.data.toList.drop pos)) (dlD t.data.toList)=ANS))
    (fun _ wr=>a.size - wr.iterPos w.heap.size)
  case atStart=>exact ⟨0,b,rfl,World.iter_heap w a 0,below_iter (Below.refl _ _) (Zj _) a 0,hb,Za HA.out⟩
  case round =>
    obtain ⟨pos,t,rfl,hk,hbw,hts,hans⟩:=hrel;by_cases hp:pos<a.size
    · obtain ⟨hbw2,hk2⟩:=next_above (q:=pos+(Utf8.decode a pos).2) hk hbw;have hnx:∀ ty,(Instr.next (.pointer (some ⟨w.heap.size,0,none⟩)) true ty).run Tryz.prog wr=_:=fun ty=>Lib.run_next_any_at wr w.heap.size a pos ty hk hp
      have hne:a.data.toList.drop pos≠[]:=by
        intro e;have:=congrArg List.length e;rw [Zs, ← Lib.size_eq] at this;simp at this;omega
      have hdd:=Lib.decodeL_drop a pos;have hst:=dl_step _ hne;rw [hdd] at hst;have hc:=Lib.rune_le a pos;have hwd:=Lib.width_pos a pos;have hit:=iterPos_of hk;clear hdd hne;generalize hd:Utf8.decode a pos=d at*;obtain ⟨c,n⟩:=d;replace hc:c≤1114111:=hc;replace hwd:1≤n:=hwd;replace hbw2:Below w.heap.size w (wr.iterAt w.heap.size a (pos+n)):=hbw2;replace hk2:(wr.iterAt w.heap.size a (pos+n)).heap[w.heap.size]?=some (.stringIter a (pos+n)):=hk2;replace hst:dlD (a.data.toList.drop pos)=c::dlD (a.data.toList.drop (pos+n)):=by rw [hst,List.drop_drop]
      have HST:=Za hst;have HIT:=Za hit;have HK:=Za hk;have HK2:=Za hk2;clear hst hd hit hk hk2;replace hnx:∀ ty,(Instr.next (.pointer (some ⟨w.heap.size,0,none⟩)) true ty).run Tryz.prog wr=.ok (.tuple #[.bool true,.int .i64 pos,.int .i32 c]) (wr.iterAt w.heap.size a (pos+n)):=hnx;generalize wr.iterAt w.heap.size a (pos+n)=w2 at*;by_cases ht:t.data.toList=[]
      · have k1:=isEmpty_eq ht
        have hA:ANS=false:=by
          rw [← hans.out,HST.out,ht];rfl
        subst hA;clear ht;go_wp2;go_ret;exact ⟨rfl,hbw2⟩
      · have k1:=isEmpty_ne ht;have cD:=Tryz.utf8_DecodeRuneInString t w2 (tabs_below hT hbw2);rw [decode_go t ht] at cD;have hst2:=dl_step _ ht;have hfit:=decodeL_fits _ ht;have hr2:=Lib.decodeL_rune t.data.toList;rw [← Lib.size_eq] at hfit;generalize Lib.decodeL t.data.toList=d2 at*;obtain ⟨c2,n2⟩:=d2;replace hfit:n2≤t.size:=hfit;replace hr2:c2≤1114111:=hr2;replace cD:Calls Tryz.prog 139 #[.string t] w2 fun e w'=>e=.returned (.tuple #[.int .i32 c2,.int .i64 n2])∧Below w2.heap.size w2 w':=cD;have HST2:=Za hst2;clear hst2 ht;have CD:=Za cD;clear cD;by_cases hcc:c=c2
        · subst hcc;go_wp2_with (go_at_call 139;refine CD.out.mono ?_;rintro e w3 ⟨rfl,hb3⟩)
          have hans2:Hid (lex (dlD (a.data.toList.drop (pos+n))) (dlD (t.extract n2 t.size).data.toList)=ANS):=by
            have:=hans.out;rw [HST.out,HST2.out] at this;unfold lex at this;rw [if_neg (fun h=>h rfl)] at this;rw [Lib.extract_to_end];exact this
          have hsz2:(t.extract n2 t.size).size≤9223372036854775807:=by
            rw [Lib.size_eq,Lib.extract_to_end,Zs, ← Lib.size_eq];omega
          have hk3:=iter_kept HK2.out hb3;go_roundw
          case rel=>exact ⟨pos+n,t.extract n2 t.size,rfl,hk3,hbw2.trans (hb3.mono hbw2.size),hsz2,hans2⟩
          case measure=>
            rw [iterPos_of hk3,HIT.out];omega
        · have hcb:((c:Int) !=(c2:Int))=true:=by rw [bne_iff_ne];omega
          have hA:ANS=decide (c<c2):=by
            rw [← hans.out,HST.out,HST2.out];unfold lex;rw [if_pos hcc]
          subst hA;clear hcc;go_wp2_with (go_at_call 139;refine CD.out.mono ?_;rintro e w3 ⟨rfl,hb3⟩);go_ret;exact ⟨rfl,hbw2.trans (hb3.mono hbw2.size)⟩
    · have hnx:∀ ty,(Instr.next (.pointer (some ⟨w.heap.size,0,none⟩)) true ty).run Tryz.prog wr=_:=fun ty=>Lib.run_next_end_at wr w.heap.size a pos ty hk hp;have HK:=Za hk;clear hk;by_cases ht:t.data.toList=[]
      · have k1:=isEmpty_eq ht
        have hA:ANS=false:=by
          rw [← hans.out,List.drop_eq_nil_of_le (by rw [← Lib.size_eq];omega),ht];rfl
        subst hA;clear ht;go_wp2;go_ret;exact ⟨rfl,hbw⟩
      · have k1:=isEmpty_ne ht
        have hA:ANS=true:=by
          rw [← hans.out,List.drop_eq_nil_of_le (by rw [← Lib.size_eq];omega),dl_step _ ht];rfl
        subst hA;clear ht;go_wp2;go_ret;exact ⟨rfl,hbw⟩
/- Plain facts of leaves:an entry's bytes;how many entries a leaf has room for;a list's leaves. No conditions. -/
def enb (e:Ent):List UInt8:=leb e.ino.toNat 1++leb e.kind.toNat 1++leb e.ser 8++leb e.ck 4++leb e.nm.data.toList.length 2++e.nm.data.toList
theorem enb_len (e:Ent):(enb e).length=16+e.nm.data.toList.length:=by simp [enb,leb_len];omega
def packL (X:List Ent):List UInt8:=X.flatMap enb
theorem packL_snoc {X:List Ent} {k:Nat} {x:Ent} (hx:X[k]?=some x):packL (X.take (k+1))=packL (X.take k)++enb x:=by
  unfold packL;rw [List.take_add_one,hx];simp
def fitL:Nat→List Ent→Nat
  | _,[]=>0
  | r,x::L=>if r<(enb x).length then 0 else fitL (r - (enb x).length) L+1
theorem fitL_le:∀ (L:List Ent) (r:Nat),fitL r L≤L.length
  | [],_=>Nat.zero_le _
  | x::L,r=>by
    unfold fitL
    split
    · exact Nat.zero_le _
    · have:=fitL_le L (r - (enb x).length);simp;omega
theorem fitL_in:∀ (L:List Ent) (r k:Nat) (x:Ent),L[k]?=some x→k<fitL r L→(packL (L.take k)).length+(enb x).length≤r
  | [],_,_,_,hx,_=>by simp at hx
  | y :: L,r,k,x,hx,hk=>by
    unfold fitL at hk
    split at hk
    · omega
    · rename_i h
      cases k with
      | zero=>
        simp at hx;subst hx;simp [packL];omega
      | succ k=>
        have h1:=fitL_in L (r - (enb y).length) k x (by simpa using hx) (by omega);simp only [packL,List.take_succ_cons,List.flatMap_cons,Zf] at h1 ⊢;omega
theorem fitL_out:∀ (L:List Ent) (r:Nat) (x:Ent),L[fitL r L]?=some x→r<(packL (L.take (fitL r L))).length+(enb x).length
  | [],_,_,hx=>by simp at hx
  | y ::L,r,x,hx=>by
    unfold fitL at hx ⊢
    split at hx
    · rename_i h
      simp at hx;subst hx;rw [if_pos h];simp [packL];exact h
    · rename_i h
      rw [if_neg h];have h1:=fitL_out L (r - (enb y).length) x (by simpa using hx);simp only [packL,List.take_succ_cons,List.flatMap_cons,Zf] at h1 ⊢;omega
theorem fitL_pack (L:List Ent) (r:Nat):(packL (L.take (fitL r L))).length≤r:=by
  by_cases h0:fitL r L=0
  · rw [h0];simp [packL]
  · have hle:=fitL_le L r;obtain ⟨x,hx⟩:∃ x,L[fitL r L - 1]?=some x:=⟨_,Zh (by omega)⟩;have h1:=fitL_in L r (fitL r L - 1) x hx (by omega);have h2:=packL_snoc hx;rw [show fitL r L - 1+1=fitL r L by omega] at h2;rw [h2,Zf];exact h1
theorem fitL_pos {L:List Ent} {r:Nat} (h:L≠[]) (hb:∀ x ∈ L,(enb x).length≤r):1≤fitL r L:=by
  cases L with
  | nil=>exact absurd rfl h
  | cons x L=>
    unfold fitL;rw [if_neg (by have:=hb x (by simp);omega)];omega
def leafB (X:List Ent):List UInt8:=UInt8.ofNat (fitL 255 X)::(packL (X.take (fitL 255 X))++List.replicate (255 - (packL (X.take (fitL 255 X))).length) 0)
theorem leafB_len (X:List Ent):(leafB X).length=256:=by
  have:=fitL_pack X 255;simp [leafB];omega
theorem leaf_lst (b:UInt8) (E:List UInt8) (h:E.length≤255):lst 256 (ov 1 E (ov 0 [b] fun _=>0))=b::(E++List.replicate (255 - E.length) 0):=by
  apply List.ext_getElem?;intro j;by_cases hj:j<256
  · rw [lst_get _ hj]
    cases j with
    | zero=>
      rw [ov_out (by omega),ov_in (by omega) (by simp)];rfl
    | succ j=>
      rw [List.getElem?_cons_succ];by_cases h1:j<E.length
      · rw [ov_in (by omega) (by omega),Zv h1,show j+1 - 1=j by omega,List.getD_eq_getElem?_getD,Zh h1];rfl
      · rw [ov_out (by omega),ov_out (by simp),Zm (by omega),List.getElem?_replicate,if_pos (by omega)]
  · rw [List.getElem?_eq_none (by rw [lst_len];omega),List.getElem?_eq_none (by simp;omega)]
def leavesN:Nat→List Ent→List (List UInt8)
  | 0,_=>[]
  | f+1,X=>if X=[] then [] else leafB X::leavesN f (X.drop (fitL 255 X))
theorem leavesN_nil (f:Nat):leavesN f []=[]:=by
  cases f with
  | zero=>rfl
  | succ f=>unfold leavesN;rw [if_pos rfl]
theorem leavesN_step {f:Nat} {X:List Ent} (h:X≠[]) (hf:X.length≤f) (hb:∀ x ∈ X,(enb x).length≤255):∃ f',leavesN f X=leafB X::leavesN f' (X.drop (fitL 255 X))∧(X.drop (fitL 255 X)).length≤f':=by
  cases f with
  | zero=>
    cases X with
    | nil=>exact absurd rfl h
    | cons x L=>simp at hf
  | succ f=>
    refine ⟨f,by rw [leavesN,if_neg h],?_⟩;have:=fitL_pos h hb;rw [Zs];omega
def leaves (X:List Ent):List (List UInt8):=leavesN X.length X
/- The small functions of package wire:what each call leaves,for every argument (bytes of at most 2^46). -/
theorem info5D:(Tryz.prog.info? 5).map (fun i=>(i.zero,i.size,i.bytes))=some (some (.int .u8 0),1,1):=by kernel_rfl
theorem u8_tableD:∃ i,U8 Tryz.prog 23 5 i:=by
  obtain ⟨i,hi,hz,h1,h2⟩:=info_parts info5D;exact ⟨i,Tryz.underlying23,hi,hz,h1,h2⟩
theorem width_anyD (n:Int) (w:World):Calls Tryz.prog 111 #[.int .i64 n] w fun e w'=>e=.returned (.int .i64 (wid n:Nat))∧w=w':=by
  by_cases h8:n=8
  · subst h8;go_enter Tryz.func111,Tryz.ntmps111;go_wp2;go_ret;exact ⟨rfl,rfl⟩
  by_cases h4:n=4
  · subst h4;go_enter Tryz.func111,Tryz.ntmps111;go_wp2;go_ret;exact ⟨rfl,rfl⟩
  by_cases h2:n=2
  · subst h2;go_enter Tryz.func111,Tryz.ntmps111;go_wp2;go_ret;exact ⟨rfl,rfl⟩
  by_cases h1:n=1
  · subst h1;go_enter Tryz.func111,Tryz.ntmps111;go_wp2;go_ret;exact ⟨rfl,rfl⟩
  have e8:(n==8)=false:=by simp [h8]
  have e4:(n==4)=false:=by simp [h4]
  have e2:(n==2)=false:=by simp [h2]
  have e1:(n==1)=false:=by simp [h1]
  have hw:wid n=0:=by simp [wid,h8,h4,h2,h1]
  rw [hw];clear h8 h4 h2 h1 hw;go_enter Tryz.func111,Tryz.ntmps111;go_wp2;go_ret;exact ⟨rfl,rfl⟩
theorem room_anyD (A:Option Addr) (c:Nat) (l:List UInt8) (more:Nat) (w:World) (hA:Hol w A l) (hb:l.length+more≤70368744177664):
    Calls Tryz.prog 110 #[.slice A l.length c,.int .i64 more] w fun e w'=>∃ v,e=.returned v∧w'.ownsRow w.heap.size 5 1 v l.length (bc l)∧Below w.heap.size w w':=by
  obtain ⟨i,U⟩:=u8_tableD;go_enter Tryz.func110,Tryz.ntmps110
  go_wp2_with (first
    | (refine wpList_make_own _ rfl _ _ 23 rfl w.heap.size 5 i (.int .u8 0) 1 U.ht U.hi U.hz U.h1 .i64 .i64 _ (l.length+more) rfl rfl (by omega) (by rw [U.h2];omega) (by unfold maxLen;omega) (Zj _) ?_;intro w1 hown1 hg1)
    | (at_builtin
       refine wpList_app _ rfl _ _ _ rfl 5 i U w.heap.size _ 0 [] rfl hown1 A l.length c l rfl rfl (hA.below (below_of_grown hg1)) (by omega) hg1.size ?_;intro v2 w2 hown2 hg2 hat2))
  go_ret;refine ⟨v2,rfl,by simpa using hown2,(below_of_grown hg1).grown hg2 hg1.size (fun k hk=>(hown1.lt k hk).1)⟩
theorem hol_oneD (w:World) (e:TypeId) (x:UInt8) (z:Int) (hz:z=(x.toNat:Int)):Hol (w.alloc (.cells #[.int .u8 z] e)) (some ⟨w.heap.size,0,none⟩) [x]:=by
  subst hz;refine .inr ⟨w.heap.size,0,rfl,fun j y hy=>?_⟩
  match j,hy with
  | 0,hy=>
    simp at hy;subst hy;simp
theorem byte_shrD (x k:Nat):(x:Int) / 2 ^ (8*k) % 256=((UInt8.ofNat (x / 256 ^ k)).toNat:Int):=by
  have e:(UInt8.ofNat (x / 256 ^ k)).toNat=x / 256 ^ k % 256:=UInt8.toNat_ofNat' ..
  have e2:(2:Int) ^ (8*k)=((256 ^ k:Nat):Int):=by
    rw [Int.pow_mul];simp
  rw [e,e2];omega
theorem number_anyD (B:Nat) (v:Value) (n:Nat) (l:List UInt8) (size:Nat) (x:Nat) (w:World) (hown:w.ownsRow B 5 1 v n (bc l)) (hs:size≤8) (hx:x<18446744073709551616)
    (hn:n≤70368744177664) (hB:B≤w.heap.size):
    Calls Tryz.prog 132 #[v,.int .i64 size,.int .u64 x] w fun e w'=>∃ v',e=.returned v'∧w'.ownsRow B 5 1 v' (n+size) (bc (l++leb x size))∧Below B w w':=by
  obtain ⟨i,U⟩:=u8_tableD;go_enter Tryz.func132,Tryz.ntmps132;go_wp2;go_loopw [0,9] (fun s i wr=>∃ k:Nat,k≤size∧i=.int .i64 k∧wr.ownsRow B 5 1 s (n+k) (bc (l++leb x k))∧Below B w wr) (fun _ i _=>size - (intOf i).toNat)
  case atStart=>exact ⟨0,Nat.zero_le _,rfl,by simpa [leb] using hown,Below.refl _ _⟩
  case round=>
    obtain ⟨k,hk,rfl,hown1,hb1⟩:=hrel;by_cases hlt:k<size
    · go_wp2_with (at_builtin;refine wpList_app _ rfl _ _ _ rfl 5 i U B _ (n+k) _ rfl (hown1.alloc _) (some ⟨wr.heap.size,0,none⟩) 1 1 [UInt8.ofNat (x / 256 ^ k)] rfl rfl (hol_oneD _ _ _ _ ?hz) (by omega) (by have:=hb1.size;simp;omega) ?_)
      case hz=>exact byte_shrD x k
      intro v2 w2 hown2 hg2 hat2;have hb2:Below B w w2:=(hb1.alloc (by have:=hb1.size;omega) _).grown hg2 (by have:=hb1.size;simp;omega) (fun k hk=>(hown1.lt k hk).1)
      have hown3:w2.ownsRow B 5 1 v2 (n+(k+1)) (bc (l++leb x (k+1))):=by
        rw [leb_succ, ← Zi,bc_app];exact hown2
      clear hown2 hg2 hat2 hown1 hb1;go_wp2;go_roundw
      case rel=>exact ⟨k+1,by omega,by go_num,hown3,hb2⟩
      case measure=>simp [intOf];omega
    · go_wp2;go_ret;have hks:k=size:=by omega
      subst hks;exact ⟨_,rfl,hown1,hb1⟩
theorem put_argD (v:Value) (size:Int) (x:Nat) (w:World) (h:wid size=0):
    Calls Tryz.prog 107 #[v,.int .i64 size,.int .u64 x] w fun e w'=>e=.returned (.tuple #[.slice none 0 0,.int .i64 201])∧w=w':=by
  go_enter Tryz.func107,Tryz.ntmps107;go_wp2_with (go_at_call 111;refine (width_anyD _ _).mono ?_;rintro e w' ⟨rfl,rfl⟩;rw [h]);go_ret2;exact ⟨rfl,rfl⟩
theorem put_longD (v:Value) (size:Int) (x:Nat) (w:World) (h:wid size≠0) (hx:x / 2 ^ wid size≠0) (h64:wid size<64):
    Calls Tryz.prog 107 #[v,.int .i64 size,.int .u64 x] w fun e w'=>e=.returned (.tuple #[.slice none 0 0,.int .i64 202])∧w=w':=by
  go_enter Tryz.func107,Tryz.ntmps107
  have hx2:((x:Int) / 2 ^ wid size !=0)=true:=by
    rw [bne_iff_ne];intro e;apply hx;have:((x / 2 ^ wid size:Nat):Int)=0:=by rw [← e];simp
    omega
  have hw0:((wid size:Int)==0)=false:=by simp;omega
  clear hx h;go_wp2_with (go_at_call 111;refine (width_anyD _ _).mono ?_;rintro e w' ⟨rfl,rfl⟩);go_ret2;exact ⟨rfl,rfl⟩
def RowBD (w:World) (A:Option Addr) (l:List UInt8):Prop:=
  l=[]∨∃ h off cur,A=some ⟨h,off,none⟩∧w.heap[h]?=some (.cells cur 5 (0,0))∧∀ j x,l[j]?=some x→cur[off+j]?=some (.int .u8 (x.toNat:Int))
theorem RowBD.hol {w:World} {A:Option Addr} {l:List UInt8} (h:RowBD w A l):Hol w A l:=by
  rcases h with rfl | ⟨h,off,cur,rfl,hh,hc⟩
  · exact .inl rfl
  · exact .inr ⟨h,off,rfl,fun j x hx=>by rw [cell_of_row w h (off+j) cur _ _ hh];exact hc j x hx⟩
theorem RowBD.take_ {w:World} {A:Option Addr} {l:List UInt8} (h:RowBD w A l) (n:Nat):RowBD w A (l.take n):=by
  rcases h with rfl | ⟨h,off,cur,rfl,hh,hc⟩
  · exact .inl (by simp)
  · refine .inr ⟨h,off,cur,rfl,hh,fun j x hx=>hc j x ?_⟩;rw [List.getElem?_take] at hx
    split at hx
    · exact hx
    · cases hx
theorem RowBD.drop_ {w:World} {h off:Nat} {l:List UInt8} (hr:RowBD w (some ⟨h,off,none⟩) l) (n:Nat):RowBD w (some ⟨h,off+n,none⟩) (l.drop n):=by
  rcases hr with rfl | ⟨h',off',cur,e,hh,hc⟩
  · exact .inl (by simp)
  · injection e with e
    injection e with e1 e2
    subst e1 e2;refine .inr ⟨h,off+n,cur,rfl,hh,fun j x hx=>?_⟩;rw [List.getElem?_drop] at hx;rw [Nat.add_assoc];exact hc (n+j) x hx
theorem RowBD.grown {w w':World} {A:Option Addr} {l:List UInt8} (h:RowBD w A l) {row:Option Nat} (hg:w.grownBy w' row) (hr:∀ b off,A=some ⟨b,off,none⟩→l≠[]→some b≠row):RowBD w' A l:=by
  by_cases hl:l=[]
  · exact .inl hl
  · rcases h with h | ⟨h,off,cur,rfl,hh,hc⟩
    · exact absurd h hl
    · exact .inr ⟨h,off,cur,rfl,(hg.block h (Array.getElem?_eq_some_iff.1 hh).1 (hr h off rfl hl)).trans hh,hc⟩
theorem RowBD.own {w:World} {base n c:Nat} {A:Option Addr} {l:List UInt8} (h:w.ownsRow base 5 1 (.slice A n c) n (bc l)):RowBD w A l:=by
  by_cases hl:l=[]
  · exact .inl hl
  · have hn:n=l.length:=(own_form h).1;rcases h.2 with ⟨h1,h2⟩ | ⟨g,cap,cur,h1,hb,hg,hn',hc,hs,ht⟩
    · exact absurd (Zk (by omega)) hl
    · simp only [Value.slice.injEq] at h1;obtain ⟨rfl,_,rfl⟩:=h1;refine .inr ⟨g,0,cur,rfl,hg,fun j x hx=>?_⟩;have hj:=get_bc hx;rw [← ht,List.getElem?_take] at hj
      split at hj
      · simpa using hj
      · cases hj
def CurD (w:World) (g:Nat) (l:List UInt8) (bad:Bool):Prop:=
  ∃ A c,w.heap[g]?=some (.cells #[.slice A l.length c,.bool bad] 169 (0,0))∧l.length≤c∧c≤maxLen∧RowBD w A l∧∀ q o,A=some ⟨q,o,none⟩→q<g
theorem RowBD.apart {w:World} {g:Nat} {cs:Array Value} (hg:w.heap[g]?=some (.cells cs 169 (0,0))) {A:Option Addr} {l:List UInt8} (h:RowBD w A l):
    ∀ b off,A=some ⟨b,off,none⟩→l≠[]→some b≠some g:=by
  intro b off hA hl e;injection e with e
  subst e;rcases h with h | ⟨h,off',cur,e,hh,_⟩
  · exact absurd h hl
  · rw [hA] at e;injection e with e
    injection e with e1 e2
    subst e1;rw [hg] at hh;injection hh with hh
    injection hh with _ ht
    exact absurd ht (by decide)
theorem CurD.lt {w:World} {g:Nat} {l:List UInt8} {bad:Bool} (h:CurD w g l bad):g<w.heap.size:=by
  obtain ⟨A,c,hg,_⟩:=h;exact (Array.getElem?_eq_some_iff.1 hg).1
theorem CurD.grown {w w':World} {g:Nat} {l:List UInt8} {bad:Bool} (h:CurD w g l bad) {row:Option Nat} (hg:w.grownBy w' row) (hne:some g≠row)
    (hrow:∀ k,row=some k→∀ cs,w.heap[k]?≠some (.cells cs 5 (0,0))):CurD w' g l bad:=by
  obtain ⟨A,c,hh,h1,h2,h3,h4⟩:=h;refine ⟨A,c,(hg.block g (Array.getElem?_eq_some_iff.1 hh).1 hne).trans hh,h1,h2,h3.grown hg ?_,h4⟩;intro b off hA hl e;rcases h3 with h | ⟨h,off',cur,e',hh',_⟩
  · exact hl h
  · rw [hA] at e';injection e' with e'
    injection e' with e1 e2
    subst e1;exact hrow b e.symm cur hh'
theorem CurD.below {w w':World} {g:Nat} {l:List UInt8} {bad:Bool} (h:CurD w g l bad) (hb:Below w.heap.size w w'):CurD w' g l bad:=
  h.grown (row:=none) (grown_of_below hb) (by simp) (by intro k hk;cases hk)
theorem grown_twoD (w:World) (g:Nat) (a b:Value):w.grownBy ((w.setCell ⟨g,0,none⟩ a).setCell ⟨g,1,none⟩ b) (some g):=
  grown_trans (grown_set w ⟨g,0,none⟩ a) (grown_set _ ⟨g,1,none⟩ b)
theorem cur_setD {w:World} {g:Nat} {a b:Value} (hg:w.heap[g]?=some (.cells #[a,b] 169 (0,0))) (A:Option Addr) (n c:Nat) (l:List UInt8) (bad:Bool) (hn:n=l.length) (h1:l.length≤c) (h2:c≤maxLen) (hr:RowBD w A l) (hq:∀ q o,A=some ⟨q,o,none⟩→q<g):
    CurD ((w.setCell ⟨g,0,none⟩ (.slice A n c)).setCell ⟨g,1,none⟩ (.bool bad)) g l bad:=by
  subst hn;refine ⟨A,c,?_,h1,h2,hr.grown (grown_twoD w g _ _) (RowBD.apart hg hr),hq⟩;rw [heap_set (heap_set hg 0 _) 1 _];rfl
theorem cur_set1D {w:World} {g:Nat} {a:Value} {bad:Bool} (hg:w.heap[g]?=some (.cells #[a,.bool bad] 169 (0,0))) (A:Option Addr) (n c:Nat) (l:List UInt8) (hn:n=l.length) (h1:l.length≤c) (h2:c≤maxLen) (hr:RowBD w A l) (hq:∀ q o,A=some ⟨q,o,none⟩→q<g):
    CurD (w.setCell ⟨g,0,none⟩ (.slice A n c)) g l bad:=by
  subst hn;refine ⟨A,c,?_,h1,h2,hr.grown (grown_set w ⟨g,0,none⟩ _) (RowBD.apart hg hr),hq⟩;rw [heap_set hg 0 _];rfl
theorem left_any (g:Nat) (l:List UInt8) (bad:Bool) (w:World) (hc:CurD w g l bad):
    Calls Tryz.prog 133 #[.pointer (some ⟨g,0,none⟩)] w fun e w'=>e=.returned (.int .i64 l.length)∧w=w':=by
  obtain ⟨A,c,hg,h1,h2,_⟩:=hc;have hc0:w.cell? ⟨g,0,none⟩=some (.slice A l.length c):=by rw [cell_of_row w g 0 _ _ _ hg];rfl
  go_enter Tryz.func133,Tryz.ntmps133;go_wp2;go_ret;exact ⟨rfl,rfl⟩
theorem spoil_anyD (g:Nat) (l:List UInt8) (bad:Bool) (w:World) (hc:CurD w g l bad):
    Calls Tryz.prog 112 #[.pointer (some ⟨g,0,none⟩)] w fun e w'=>e=.returned (.tuple #[])∧CurD w' g [] true∧w.grownBy w' (some g):=by
  obtain ⟨A,c,hg,h1,h2,_⟩:=hc;have hc0:w.cell? ⟨g,0,none⟩=some (.slice A l.length c):=by rw [cell_of_row w g 0 _ _ _ hg];rfl
  have hc1:w.cell? ⟨g,1,none⟩=some (.bool bad):=by rw [cell_of_row w g 1 _ _ _ hg];rfl
  have hf0:w.frozen? ⟨g,0,none⟩=false:=by simp [World.frozen?,hg]
  have hf1:w.frozen? ⟨g,1,none⟩=false:=by simp [World.frozen?,hg]
  go_enter Tryz.func112,Tryz.ntmps112;go_wp2;go_end0;exact ⟨rfl,cur_setD hg none 0 0 [] true rfl (Zj _) (by decide) (.inl rfl) (fun q o e=>by cases e),grown_twoD w g _ _⟩
def NextPostD (w:World) (g:Nat) (r:List UInt8 × List UInt8 × Bool) (e:Ending) (w':World):Prop:=
  ∃ A c,e=.returned (.slice A r.1.length c)∧r.1.length≤c∧c≤maxLen∧Hol w' A r.1∧CurD w' g r.2.1 r.2.2∧w.grownBy w' (some g)
theorem next_anyD (g:Nat) (l:List UInt8) (bad:Bool) (n:Int) (w:World) (hc:CurD w g l bad) (hl:l.length≤140737488355328):
    Calls Tryz.prog 113 #[.pointer (some ⟨g,0,none⟩),.int .i64 n] w (NextPostD w g (nxt n l bad)):=by
  by_cases h0:n<0
  · have hnx:nxt n l bad=([],[],true):=by unfold nxt;rw [if_pos (.inl h0)]
    rw [hnx];go_enter Tryz.func113,Tryz.ntmps113;go_wp2_with (go_at_call 112;refine (spoil_anyD g l bad _ hc).mono ?_;rintro e w' ⟨rfl,hc',hg'⟩);go_ret;exact ⟨none,0,rfl,Zj _,by decide,.inl rfl,hc',hg'⟩
  have hd:decide (n<0)=false:=by simpa using h0
  by_cases h1:(l.length:Int)<n
  · have hnx:nxt n l bad=([],[],true):=by unfold nxt;rw [if_pos (.inr h1)]
    rw [hnx];go_enter Tryz.func113,Tryz.ntmps113
    go_wp2_with (first
      | (go_at_call 112;refine (spoil_anyD g l bad _ hc).mono ?_;rintro e w' ⟨rfl,hc',hg'⟩)
      | (go_at_call 133;refine (left_any g l bad _ hc).mono ?_;rintro e w' ⟨rfl,rfl⟩))
    go_ret;exact ⟨none,0,rfl,Zj _,by decide,.inl rfl,hc',hg'⟩
  have hnx:nxt n l bad=(l.take n.toNat,l.drop n.toNat,bad):=by unfold nxt;rw [if_neg (by omega)]
  rw [hnx];by_cases h2:n=0
  · subst h2;go_enter Tryz.func113,Tryz.ntmps113;go_wp2_with (go_at_call 133;refine (left_any g l bad _ hc).mono ?_;rintro e w' ⟨rfl,rfl⟩);go_ret;exact ⟨none,0,rfl,Zj _,by decide,.inl rfl,hc,⟨rfl,rfl,rfl,Zj _,fun _ _ _=>rfl⟩⟩
  obtain ⟨m,rfl⟩:=Int.eq_ofNat_of_zero_le (by omega:0≤n);have hm:0<m∧m≤l.length:=by omega
  have hne:l≠[]:=by intro e;subst e;simp at hm;omega
  obtain ⟨A,c,hg,hl1,hl2,hrow,hqg⟩:=id hc
  obtain ⟨q,off,rfl⟩:∃ q off,A=some ⟨q,off,none⟩:=by
    rcases hrow with e | ⟨q,off,cur,e,_⟩
    · exact absurd e hne
    · exact ⟨q,off,e⟩
  have hc0:w.cell? ⟨g,0,none⟩=some (.slice (some ⟨q,off,none⟩) l.length c):=by rw [cell_of_row w g 0 _ _ _ hg];rfl
  have hf0:w.frozen? ⟨g,0,none⟩=false:=by simp [World.frozen?,hg]
  have hb0:((m:Int)==0)=false:=by simp;omega
  have hm1:(m:Int)≤l.length:=by omega
  have hcm:(l.length:Int)≤c:=by omega
  have hc63:(c:Int)≤9223372036854775807:=by unfold maxLen at hl2;omega
  rw [Yf];clear hnx h0 h1 h2 hne;go_enter Tryz.func113,Tryz.ntmps113;go_wp2_with (go_at_call 133;refine (left_any g l bad _ hc).mono ?_;rintro e w' ⟨rfl,rfl⟩)
  · go_ret;have hlm:l.length=m:=by omega
    have e0:l.drop m=[]:=List.drop_eq_nil_of_le (by omega);have e1:l.take m=l:=Zz (by omega);rw [e0,e1];exact ⟨some ⟨q,off,none⟩,m,by rw [hlm];rfl,by show l.length≤m;omega,by omega,(hrow.hol).grown (grown_set w ⟨g,0,none⟩ _) (fun b o e=>RowBD.apart hg hrow b o e (by intro e;subst e;simp at hm;omega)),cur_set1D hg _ _ 0 [] (by simp;omega) (by simp) (by decide) (.inl rfl) hqg,grown_set w ⟨g,0,none⟩ _⟩
  · go_ret;have e1:(l.take m).length=m:=by simp;omega
    exact ⟨some ⟨q,off,none⟩,c,by rw [e1];rfl,by show (l.take m).length≤c;omega,hl2,(hrow.hol.take_ m).grown (grown_set w ⟨g,0,none⟩ _) (fun b o e=>RowBD.apart hg hrow b o e (by intro e;subst e;simp at hm;omega)),
      cur_set1D hg _ _ (c - m) (l.drop m) (by simp) (by simp;omega) (by omega) (hrow.drop_ m) (fun q2 o2 e=>by injection e with e;injection e with e1 e2;subst e1;exact hqg _ _ rfl),grown_set w ⟨g,0,none⟩ _⟩
theorem next_ofD (g:Nat) (l:List UInt8) (bad:Bool) (n:Int) (w:World) (hc:CurD w g l bad) (hl:l.length≤70368744177664) (r:List UInt8 × List UInt8 × Bool) (hr:nxt n l bad=r):
    Calls Tryz.prog 113 #[.pointer (some ⟨g,0,none⟩),.int .i64 n] w (NextPostD w g r):=by
  subst hr;exact next_anyD g l bad n w hc (by omega)
def NumPostD (w:World) (g:Nat) (r:List UInt8 × List UInt8 × Bool) (e:Ending) (w':World):Prop:=
  e=.returned (.int .u64 (num r.1:Nat))∧CurD w' g r.2.1 r.2.2∧w.grownBy w' (some g)
theorem num_anyD (g:Nat) (l:List UInt8) (bad:Bool) (n:Int) (w:World) (hc:CurD w g l bad) (hl:l.length≤70368744177664):
    Calls Tryz.prog 74 #[.pointer (some ⟨g,0,none⟩),.int .i64 n] w (NumPostD w g (nnx n l bad)):=by
  by_cases h:wid n=0
  · have hn:nnx n l bad=([],[],true):=by unfold nnx;rw [if_pos h]
    rw [hn];clear hn;go_enter Tryz.func74,Tryz.ntmps74
    go_wp2_with (first
      | (go_at_call 111;refine (width_anyD _ _).mono ?_;rintro e w' ⟨rfl,rfl⟩;rw [h])
      | (go_at_call 112;refine (spoil_anyD g l bad _ hc).mono ?_;rintro e w' ⟨rfl,hc',hg'⟩))
    go_ret;exact ⟨rfl,hc',hg'⟩
  · have hn:nnx n l bad=nxt n l bad:=by unfold nnx;rw [if_neg h]
    have hle:=nxt_one n l bad (by have:=wid_pos h;omega);have hlt:=num_lt (nxt n l bad).1;have h8:=(wid_pos h).2;rw [hn];generalize hr:nxt n l bad=r at hle hlt ⊢;have cN:=next_ofD g l bad n w hc hl r hr;clear hr hn;obtain ⟨out,rest,bd⟩:=r;replace hle:out.length≤8:=by have:out.length≤n.toNat:=hle;omega
    have hw0:((wid n:Int)==0)=false:=by simp;omega
    clear h hlt;go_enter Tryz.func74,Tryz.ntmps74
    go_wp2_with (first
      | (go_at_call 111;refine (width_anyD _ _).mono ?_;rintro e w' ⟨rfl,rfl⟩)
      | (go_at_call 113;refine cN.mono ?_;rintro e w1 ⟨A,c,rfl,h1,h2,h3,h4,h5⟩))
    replace h1:out.length≤c:=h1;replace h3:Hol w1 A out:=h3;go_loop [5,17] (fun v i=>∃ k:Nat,k≤out.length∧i=.int .i64 k∧v=.int .u64 (num (out.take k):Nat)) (fun _ i=>out.length - (intOf i).toNat)
    case atStart=>exact ⟨0,Nat.zero_le _,rfl,rfl⟩
    case round=>
      obtain ⟨k,hk,rfl,rfl⟩:=hrel;by_cases hlt:k<out.length
      · obtain ⟨q,off,rfl,_,hcell⟩:=h3.at_ hlt;obtain ⟨x,hx⟩:∃ x,out[k]=x:=⟨_,rfl⟩;rw [hx] at hcell;have hX:x.toNat<256:=x.toNat_lt;obtain ⟨N,hN⟩:∃ N,num (out.take k)=N:=⟨_,rfl⟩;rw [hN];have HX:=Za hx;have HN:=Za hN;clear hx hN;go_wp2;go_round
        case rel=>
          refine ⟨k+1,by omega,by go_num,?_⟩;have e1:out.take (k+1)=out.take k++[x]:=by rw [List.take_succ_eq_append_getElem hlt,HX.out]
          have e2:(out.take k).length=k:=by simp;omega
          have e3:=num_lt (out.take k);rw [e2,HN.out] at e3;rw [e1,num_app,e2,HN.out,or_join N x.toNat k e3 hX (by omega)]
        case measure=>simp [intOf];omega
      · go_wp2;go_ret;have e1:out.take k=out:=Zz (by omega);rw [e1];exact ⟨rfl,h4,h5⟩
def TextPost (w:World) (g:Nat) (r:List UInt8 × List UInt8 × Bool) (e:Ending) (w':World):Prop:=
  e=.returned (.string ⟨r.1.toArray⟩)∧CurD w' g r.2.1 r.2.2∧w.grownBy w' (some g)
theorem text_any (g:Nat) (l:List UInt8) (bad:Bool) (w:World) (hc:CurD w g l bad) (hl:l.length≤70368744177664):
    Calls Tryz.prog 117 #[.pointer (some ⟨g,0,none⟩)] w (TextPost w g (tnx l bad)):=by
  have cM:Calls Tryz.prog 74 #[.pointer (some ⟨g,0,none⟩),.int .i64 2] w (NumPostD w g (nxt 2 l bad)):=num_anyD g l bad 2 w hc hl;unfold tnx;have hle:=nxt_le 2 l bad;have h1:=nxt_one 2 l bad (by omega);generalize nxt 2 l bad=r at cM hle h1 ⊢;obtain ⟨o,r1,b1⟩:=r;replace hle:r1.length≤l.length:=hle.2;replace h1:o.length≤2:=h1
  have hm:num o<65536:=by
    have h2:=num_lt o;have h3:256 ^ o.length≤256 ^ 2:=Nat.pow_le_pow_right (by decide) h1;omega
  show Calls _ _ _ _ (TextPost w g (nxt (num o:Nat) r1 b1));have cM2:Calls Tryz.prog 74 #[.pointer (some ⟨g,0,none⟩),.int .i64 2] w (fun e w'=>e=.returned (.int .u64 (num o:Nat))∧CurD w' g r1 b1∧w.grownBy w' (some g)):=cM;clear cM;generalize num o=m at cM2 hm ⊢;have hmz:(m:Int)<65536:=by omega
  generalize hr:nxt (m:Int) r1 b1=r2 at*;obtain ⟨o2,r3,b3⟩:=r2;have cN:=fun w1 hc1=>next_ofD g r1 b1 m w1 hc1 (by omega) _ hr;clear hr;have CN:=Za cN;clear cN;go_enter Tryz.func117,Tryz.ntmps117
  go_wp2_with (first
    | (go_at_call 74;refine cM2.mono ?_;rintro e w1 ⟨rfl,hc1,hg1⟩)
    | (go_at_call 113;refine (CN.out w1 hc1).mono ?_;rintro e w2 ⟨A,c,rfl,h1,h2,h3,h4,h5⟩;have hk:=run_to_string (P:=Tryz.prog) w2 23 9 5 A c o2.length o2 rfl Tryz.underlying23 Tryz.underlying5 Tryz.underlying9 h3))
  go_ret;exact ⟨rfl,h4,grown_trans hg1 h5⟩
theorem new_any (A:Option Addr) (c:Nat) (l:List UInt8) (w:World) (hA:Hol w A l) (hb:l.length≤70368744177664):
    Calls Tryz.prog 73 #[.slice A l.length c] w fun e w'=>∃ g,e=.returned (.pointer (some ⟨g,0,none⟩))∧w.heap.size≤g∧CurD w' g l false∧Below w.heap.size w w':=by
  go_enter Tryz.func73,Tryz.ntmps73;go_wp2_with (go_at_call 110;refine (room_anyD A c l 0 w hA (by omega)).mono ?_;rintro e w1 ⟨v,rfl,hown1,hb1⟩;obtain ⟨_,A1,c1,rfl,h1,h2,h3⟩:=own_form hown1);go_ret;exact ⟨w1.heap.size,rfl,hb1.size,⟨A1,c1,heap_alloc_new w1 _,h1,h2,(RowBD.own hown1).grown (World.grownBy_alloc w1 _ none) (by simp),fun q o e=>(hown1.lt q (by rw [e];rfl)).2⟩,hb1.alloc hb1.size _⟩
def putRD (l:List UInt8) (size:Int) (x:Nat):List UInt8 × Int:=
  if wid size=0 then ([],201) else if x / 256 ^ size.toNat≠0 then ([],202) else (l++leb x size.toNat,0)
def BytesPostD (w:World) (r:List UInt8 × Int) (e:Ending) (w':World):Prop:=
  ∃ v,e=.returned (.tuple #[v,.int .i64 r.2])∧w'.ownsRow w.heap.size 5 1 v r.1.length (bc r.1)∧Below w.heap.size w w'
theorem wid_powD (size:Int) (h:wid size≠0):(2:Nat) ^ wid size=256 ^ size.toNat:=by
  have h1:=wid_eq h;have h2:=wid_pos h;have e:wid size=8*size.toNat:=by omega
  rw [e,Nat.pow_mul]
theorem put_anyD (A:Option Addr) (c:Nat) (l:List UInt8) (size:Int) (x:Nat) (w:World) (hA:Hol w A l) (hx:x<18446744073709551616) (hl:l.length≤35184372088832):
    Calls Tryz.prog 107 #[.slice A l.length c,.int .i64 size,.int .u64 x] w (BytesPostD w (putRD l size x)):=by
  by_cases h:wid size=0
  · have hr:putRD l size x=([],201):=by unfold putRD;rw [if_pos h]
    rw [hr];exact (put_argD _ size x w h).mono fun e w' ⟨he,hw⟩=>⟨_,he,Ye _ _ _ _,by rw [hw];exact Below.refl _ _⟩
  by_cases hx2:x / 256 ^ size.toNat≠0
  · have hr:putRD l size x=([],202):=by unfold putRD;rw [if_neg h,if_pos hx2]
    rw [hr];refine (put_longD _ size x w h (by rw [wid_powD size h];exact hx2) ?_).mono fun e w' ⟨he,hw⟩=>⟨_,he,Ye _ _ _ _,by rw [hw];exact Below.refl _ _⟩;have hp:=wid_pos h;have he:=wid_eq h;rcases (by omega:size=8∨size<8) with h8 | h8
    · exfalso;apply hx2;rw [h8];exact Nat.div_eq_of_lt (by simpa using hx)
    · omega
  · have hr:putRD l size x=(l++leb x size.toNat,0):=by unfold putRD;rw [if_neg h,if_neg hx2]
    rw [hr];have hp:=wid_pos h;have he:=wid_eq h
    have hx3:((x:Int) / 2 ^ wid size !=0)=false:=by
      rw [bne_eq_false_iff_eq];have e1:(2:Int) ^ wid size=((256 ^ size.toNat:Nat):Int):=by rw [← wid_powD size h,Int.natCast_pow];rfl
      rw [e1];have:x / 256 ^ size.toNat=0:=by simpa using hx2
      rw [← Int.natCast_ediv,this];rfl
    have hw0:((wid size:Int)==0)=false:=by simp;omega
    have hw1:wid size≤64:=wid_le size;obtain ⟨k,rfl⟩:=Int.eq_ofNat_of_zero_le (by omega:0≤size);rw [Yf];have hk:k≤8:=by omega
    clear hx2 h hr hp he;go_enter Tryz.func107,Tryz.ntmps107
    go_wp2_with (first
      | (go_at_call 111;refine (width_anyD _ _).mono ?_;rintro e w' ⟨rfl,rfl⟩)
      | (go_at_call 110;refine (room_anyD A c l k w hA (by omega)).mono ?_;rintro e w1 ⟨v,rfl,hown1,hb1⟩)
      | (go_at_call 132;refine (number_anyD w.heap.size v l.length l k x w1 hown1 hk hx (by omega) hb1.size).mono ?_;rintro e w2 ⟨v2,rfl,hown2,hb2⟩))
    go_ret2;refine ⟨v2,rfl,?_,hb1.trans hb2⟩;have:(l++leb x k).length=l.length+k:=by rw [Zf,leb_len]
    rw [this];exact hown2
def txtR (l:List UInt8) (s:List UInt8):List UInt8 × Int:=
  if 65535<s.length then ([],202) else (l++leb s.length 2++s,0)
theorem txt_any (A:Option Addr) (c:Nat) (l:List UInt8) (s:ByteArray) (w:World) (hA:Hol w A l) (hl:l.length≤35184372088832) (hs:s.size≤9223372036854775807):
    Calls Tryz.prog 125 #[.slice A l.length c,.string s] w (BytesPostD w (txtR l s.data.toList)):=by
  have hsz:s.data.toList.length=s.size:=by rw [Array.length_toList];rfl
  by_cases h:65535<s.size
  · have hr:txtR l s.data.toList=([],202):=by unfold txtR;rw [hsz,if_pos h]
    rw [hr];have hz:(65535:Int)<(s.size:Int):=by omega
    clear hr hsz h;go_enter Tryz.func125,Tryz.ntmps125;go_wp2;go_ret2;exact ⟨_,rfl,Ye _ _ _ _,Below.refl _ _⟩
  · have hr:txtR l s.data.toList=(l++leb s.size 2++s.data.toList,0):=by unfold txtR;rw [hsz,if_neg h]
    rw [hr];obtain ⟨i,U⟩:=u8_tableD;have HS:=Za hsz;clear hr hsz;have hz:(s.size:Int)≤65535:=by omega
    have hz2:s.size≤65535:=by omega
    clear h;go_enter Tryz.func125,Tryz.ntmps125
    go_wp2_with (first
      | (go_at_call 110;refine (room_anyD A c l (2+s.size) w hA (by omega)).mono ?_;rintro e w1 ⟨v,rfl,hown1,hb1⟩)
      | (go_at_call 132;refine (number_anyD w.heap.size v l.length l 2 s.size w1 hown1 (by omega) (by omega) (by omega) hb1.size).mono ?_;rintro e w2 ⟨v2,rfl,hown2,hb2⟩)
      | (at_builtin;refine Lib.wpList_append_own_string _ rfl _ _ 23 9 rfl w.heap.size 5 i U.ht Tryz.underlying9 U.hi U.hz U.h1 U.h2 v2 (l.length+2) _ rfl hown2 s rfl (by unfold maxLen;omega) (by omega) (hb1.trans hb2).size ?_;intro v3 w3 hown3 hg3 _))
    go_ret2;refine ⟨v3,rfl,?_,(hb1.trans hb2).grown hg3 (hb1.trans hb2).size (fun k hk=>(hown2.lt k hk).1)⟩;have:(l++leb s.size 2++s.data.toList).length=l.length+2+s.size:=by rw [Zf,Zf,leb_len,HS.out]
    show w3.ownsRow _ _ _ _ (l++leb s.size 2++s.data.toList).length (bc (l++leb s.size 2++s.data.toList));rw [this,bc_app];exact hown3
end Go.Proofs.YtijffkklhgnknaaGreatDoor
