/- Files: what a block holds behind a write. Conditions: those named. -/
import Derived.Test.YtijffkklhgnknaaGreatDoorAz
import Derived.Test.YtijffkklhgnknaaGreatDoorMgDd
import Derived.Deep.Cut
set_option maxHeartbeats 20000000
set_option linter.unusedVariables false
set_option maxRecDepth 20000
namespace Go.Proofs.YtijffkklhgnknaaGreatDoor
open Go.RowKit
section
variable {P:Program}
theorem run_max_op (w:World) {a:Act} (o:Oper) (x y:Operand) (ts:Array TypeId) (ho:o.op=.call { callee:=.builtin .max,args:=#[x,y],argTypes:=ts }) (p q m:Int) (hx:a.eval x=.int .i64 p) (hy:a.eval y=.int .i64 q) (hm:(if q > p then q else p)=m):(execOp a.eval o).run P w=.ok (.value (.int .i64 m)) w:=by
  subst hm;unfold execOp;simp only [ho,resolve,invoke,builtin,Sem.run_bind,Sem.run_pure,Zw,List.map_toArray,List.map_cons,List.map_nil,hx,hy,run_max_int2]
theorem run_cutd_op (w:World) {a:Act} (o:Oper) (t:TypeId) (x y:Operand) (ho:o.op=.slice t x (some y) none none) (g off n c l m cc:Nat) (zl:Int) (hx:a.eval x=.slice (some ⟨g,off,none⟩) n c) (hy:a.eval y=.int .i64 zl) (hzl:zl=(l:Int)) (hln:l≤n) (hlc:l<c) (hm:n - l=m) (hcc:c - l=cc)
    (hu:P.underlying t=some (.slice (P.elem t))) (hs:(P.info? (P.elem t)).map (·.size)=some 1):(execOp a.eval o).run P w=.ok (.value (.slice (some ⟨g,off+l,none⟩) m cc)) w:=by
  subst hzl hm hcc
  have hr:(Instr.sliceAt t (.slice (some ⟨g,off,none⟩) n c) (some (.int .i64 (l:Int))) none none).run P w=.ok (.slice (some ⟨g,off+l,none⟩) (n - l) (c - l)) w:=by
    rw [run_sliceAt_slice w _ _ _ _ _ hu,run_slice_l w _ _ _ _ hu .i64 _ (by omega) (by omega),size_of hs];have h1:¬ c=l:=by omega
    simp only [Zw,sliced,Yf,Nat.mul_one,if_neg h1,Option.map_some,Addr.add_lit]
  unfold execOp;simp only [ho,hx,hy,Option.map_some,Option.map_none,Sem.run_bind,hr,Zw];rfl
end
theorem hol_drop {w:World} {g o:Nat} {l:L8} (h:Hol w (some ⟨g,o,none⟩) l) (q:Nat):Hol w (some ⟨g,o+q,none⟩) (l.drop q):=by
  rcases h with rfl | ⟨g',o',e,hc⟩
  · exact .inl (by simp)
  · injection e with e
    injection e with e1 e2
    subst e1 e2;refine .inr ⟨g,o+q,rfl,fun j x hx=>?_⟩;rw [List.getElem?_drop] at hx;have:=hc (q+j) x hx;rwa [← Nat.add_assoc] at this
def mixF (l:L8) (B:Int) (f:Nat→UInt8) (j:Nat):UInt8:=if B≤(j:Int)∧(j:Int)<B+l.length then l.getD ((j:Int) - B).toNat 0 else f j
section
variable {b:Nat} {w w':World} {gd gv gm gs r:Nat} {Bs:List BV} {N n:Nat} {X X':DX}
theorem dmixed_1 (z:Nat) (f:Nat→UInt8) (h:DK b w gd gv gm gs r Bs N n X) (hc:Cont X Bs z f) (A:Option Addr) (c m:Nat) (l:L8) (hm:l.length=m) (hmc:m≤c) (hD:∀ W,Chg [gd] w W→Hol W A l) (B Nz Sm:Int) (p q:Nat) (hneg:IntKind.i64.wrap (-B)=Nz) (hsum:IntKind.i64.wrap (B+(m:Int))=Sm)
    (hp:(if (0:Int) > B then 0 else B)=(p:Int)) (hq:(if (0:Int) > Nz then 0 else Nz)=(q:Int)) (hpq:p≤255∧q<m) (h1:0<B):Calls Tryz.prog 48 #[.pointer (some ⟨gd,0,none⟩),.int .i64 (z:Int),.int .i64 B,.slice A m c] w (DOne b w gd gv gm gs r Bs N n X (.agg (brr 256 (ov p ((l.drop q).take (256 - p)) f)).toArray)):=by
  have i1:=Za info_brr;have i2:=Za info_u8s;have hz0:=Za zero_block;have H:=Za h;have HLT:=Za h.lt;have HLO:=Za h.lo;obtain ⟨ga,oa,rfl,_,_⟩:=(hD w (Chg.refl _ _)).some_ (by omega);have HDD:=Za hD;have HM:=Za hm;have HPQ:=Za (p:=p≤255∧q<m∧m≤c) ⟨hpq.1,hpq.2,hmc⟩;have HP:=Za hp;have HQ:=Za hq;have hp1:(p:Int)≤256:=by omega
  have hp2:¬ 256=p:=by omega
  obtain ⟨f0,hf0⟩:∃ f0:Nat→UInt8,(fun _=>0)=f0:=⟨_,rfl⟩;have HF0:=Za hf0;rw [hf0] at hz0;have HC:=Za hc;clear h hD hm hpq hmc hp hq hf0 hc;go_enter Tryz.func48,Tryz.ntmps48
  go_wp2_with (first
    | (refine step_alloc rfl 8 rfl 110 rfl _ hz0.out ?_;intro g8 w2 hr2 hg2 hb2 hs2;have HR82:=Za hr2
       have HB2:=Za hb2;have HG8:=Za (p:=w.heap.size≤g8) (Nat.le_of_eq hg2.out.symm);clear hr2 hg2 hb2 hs2;have MK:=trivial)
    | (clear MK;refine step_alloc rfl 9 rfl 110 rfl _ hz0.out ?_;intro g9 w3 hr2 hg2 hb2 hs2;have HR93:=Za hr2
       have HR83:=Za (HR82.out.kept hb2);have HB3:=Za (below_nxt hb2 HB2.out);have HG9:=Za (p:=w.heap.size≤g9∧g8<g9) (by rw [hg2.out];exact ⟨HB2.out.size,HR82.out.lt⟩);clear hr2 hg2 hb2 hs2)
    | (go_at_call 79;refine (dcontent z f (H.out.below HB3.out) HC.out).mono ?_;rintro e w4 ⟨rfl,hk,hc⟩;have HK4:=hk
       have HC4:=Za (p:=Chg [gd] w w4) ((Chg.of (F:=[gd]) HB3.out).trans hc.out (fun x hx=>.inl hx));have HR84:=Za (hc.out.row HR83.out (by have h1:=HLT.out;have h2:=HG8.out;simp;omega));have HR94:=Za (hc.out.row HR93.out (by have h1:=HLT.out;have h2:=HG9.out;simp;omega));clear hk hc)
    | (refine step_store rfl 110 (.tmp 9) (.tmp 21) rfl g9 rfl _ _ (brr 256 f) rfl HR94.out (by rw [brr_len,brr_len]) (i1.out _) (brr_one _ _) ?_;intro w5 hr9 hg9 hs9;have HR95:=Za hr9
       have HK5:=Za ((HK4.out.other HR94.out (by decide) (by have:=HLO.out;have:=HG9.out;omega) (Chg.one hg9)));have HC5:=Za (p:=Chg [gd] w w5) (chg_own HC4.out HG9.out.1 (Chg.one hg9));have HR85:=Za (HR84.out.grown hg9 (fun e=>by have:=HG9.out;injection e;omega));clear hr9 hg9 hs9))
  refine Zq (S:=fun _=>True) (by kernel_rfl) trivial (fun hHeld=>?_);refine Ze (i:=0) (oi:=⟨some 22,.move (.tmp 2),_,_,_,_⟩) (v:=.int .i64 B) rfl (by kernel_rfl) (by kernel_rfl) (by kernel_rfl) (fun _ _ _ h=>h) (.inl ⟨by rfl,fun w hSw=>by go_simp⟩) (by assumption) ?_;simp only [Act.put,Zb,Zc,Zd];refine Ze (i:=1) (oi:=⟨some 23,.call ⟨.builtin .max,#[.tmp 22,.const (.int .i64 0)],#[3,3]⟩,_,_,_,_⟩) (v:=.int .i64 (p:Int)) rfl (by kernel_rfl) (by kernel_rfl) (by kernel_rfl) (fun _ _ _ h=>h) (.inl ⟨by rfl,fun w hSw=>run_max_op w _ (.tmp 22) (.const (.int .i64 0)) _ rfl B 0 _ (by rfl) (by rfl) HP.out⟩) (by assumption) ?_;simp only [Act.put,Zb,Zc,Zd];refine Ze (i:=2) (oi:=⟨some 24,.slice 110 (.tmp 9) (some (.tmp 23)) none none,_,_,_,_⟩) (v:=.slice (some ⟨g9,p,none⟩) (256 - p) (256 - p)) rfl (by kernel_rfl) (by kernel_rfl) (by kernel_rfl) (fun _ _ _ h=>h) (.inl ⟨by rfl,fun w hSw=>by go_simp⟩) (by assumption) ?_;simp only [Act.put,Zb,Zc,Zd];refine Ze (i:=3) (oi:=⟨some 25,.move (.tmp 3),_,_,_,_⟩) (v:=.slice (some ⟨ga,oa,none⟩) m c) rfl (by kernel_rfl) (by kernel_rfl) (by kernel_rfl) (fun _ _ _ h=>h) (.inl ⟨by rfl,fun w hSw=>by go_simp⟩) (by assumption) ?_;simp only [Act.put,Zb,Zc,Zd];refine Ze (i:=4) (oi:=⟨some 26,.move (.tmp 2),_,_,_,_⟩) (v:=.int .i64 B) rfl (by kernel_rfl) (by kernel_rfl) (by kernel_rfl) (fun _ _ _ h=>h) (.inl ⟨by rfl,fun w hSw=>by go_simp⟩) (by assumption) ?_;simp only [Act.put,Zb,Zc,Zd];refine Ze (i:=5) (oi:=⟨some 27,.unOp .neg 3 (.tmp 26),_,_,_,_⟩) (v:=.int .i64 Nz) rfl (by kernel_rfl) (by kernel_rfl) (by kernel_rfl) (fun _ _ _ h=>h) (.inl ⟨by rfl,fun w hSw=>by go_simp⟩) (by assumption) ?_;simp only [Act.put,Zb,Zc,Zd];refine Ze (i:=6) (oi:=⟨some 28,.call ⟨.builtin .max,#[.tmp 27,.const (.int .i64 0)],#[3,3]⟩,_,_,_,_⟩) (v:=.int .i64 (q:Int)) rfl (by kernel_rfl) (by kernel_rfl) (by kernel_rfl) (fun _ _ _ h=>h) (.inl ⟨by rfl,fun w hSw=>run_max_op w _ (.tmp 27) (.const (.int .i64 0)) _ rfl Nz 0 _ (by rfl) (by rfl) HQ.out⟩) (by assumption) ?_;simp only [Act.put,Zb,Zc,Zd];refine Ze (i:=7) (oi:=⟨some 29,.slice 23 (.tmp 25) (some (.tmp 28)) none none,_,_,_,_⟩) (v:=.slice (some ⟨ga,oa+q,none⟩) (m - q) (c - q)) rfl (by kernel_rfl) (by kernel_rfl) (by kernel_rfl) (fun _ _ _ h=>h) (.inl ⟨by rfl,fun w hSw=>run_cutd_op w _ 23 (.tmp 25) (.tmp 28) rfl ga oa m c q (m - q) (c - q) (q:Int) (by rfl) (by rfl) rfl (by have:=HPQ.out;omega) (by have:=HPQ.out;omega) rfl rfl (by kernel_rfl) (by kernel_rfl)⟩) (by assumption) ?_;simp only [Act.put,Zb,Zc,Zd];refine Zp (rs:=[8]) (by kernel_rfl) (by simp) ?_;refine Zl (o:=⟨some 30,.call ⟨.builtin .copy,#[.tmp 24,.tmp 29],#[23,23]⟩,_,_,_,_⟩) rfl (fun K hK=>?_) Zo;have HH:=Za (HDD.out _ (chg_nxt HC5.out (below_drw _)));refine k_copy (.tmp 24) (.tmp 29) 23 23 rfl 5 Tryz.underlying23 i2.out g9 p 256 (256 - p) (256 - p) 110 f (by rfl) HR95.out.drew (some ⟨ga,oa+q,none⟩) (m - q) (c - q) (l.drop q) (by rfl) (by rw [Zs,HM.out]) (hol_drop HH.out q) (by have h1:Nat.min (m - q) (256 - p)≤256 - p:=Nat.min_le_right _ _;have:=HPQ.out;omega) ?_;intro w7 kk hr7 hu7;obtain ⟨F,hF⟩:∃ F,ov p ((l.drop q).take (256 - p)) f=F:=⟨_,rfl⟩;rw [hF] at hr7;have HF:=Za hF;have HR97:=Za hr7;have HC7:=Za (p:=Chg [gd] w w7) (chg_own (chg_nxt HC5.out (below_drw _)) HG9.out.1 (Chg.one hu7.out.by_));have HK7:=Za ((HK5.out.below (below_drw _)).other HR95.out.drew (by decide) (by have:=HLO.out;have:=HG9.out;omega) (Chg.one hu7.out.by_));have HR87:=Za (HR85.out.drew.grown hu7.out.by_ (fun e=>by have:=HG9.out;injection e;omega));clear hr7 hu7 hF;refine hK.out _ _ trivial (fun _hH=>?_);clear hK K;refine Yg (by kernel_rfl) ?_ _
  go_wp2_with (first
    | (refine step_load rfl 31 rfl 110 (.tmp 9) rfl g9 rfl (brr 256 F) _ HR97.out.all Tryz.underlying110 rfl (i1.out _) ?_)
    | (refine step_store rfl 110 (.tmp 8) (.tmp 31) rfl g8 (by rfl) _ _ (brr 256 F) (by rfl) HR87.out (by rw [brr_len,brr_len]) (i1.out _) (brr_one _ _) ?_;intro w9 hr9 hg9 hs9))
  refine Yd (results_cell_row rfl _ _ g8 _ _ _ _ rfl hr9 Tryz.underlying110 rfl (by simpa using i1.out F)) rfl ?_;exact ⟨by rw [HF.out],Za (HK7.out.other HR87.out (by decide) (by have:=HLO.out;have:=HG8.out;omega) (Chg.one hg9)),Za (chg_own HC7.out HG8.out (Chg.one hg9))⟩
theorem dmixed_2 (z:Nat) (f:Nat→UInt8) (h:DK b w gd gv gm gs r Bs N n X) (hc:Cont X Bs z f) (A:Option Addr) (c m:Nat) (l:L8) (hm:l.length=m) (hmc:m≤c) (hD:∀ W,Chg [gd] w W→Hol W A l) (B Nz Sm:Int) (p q:Nat) (hneg:IntKind.i64.wrap (-B)=Nz) (hsum:IntKind.i64.wrap (B+(m:Int))=Sm)
    (hp:(if (0:Int) > B then 0 else B)=(p:Int)) (hq:(if (0:Int) > Nz then 0 else Nz)=(q:Int)) (hpq:p≤255∧q<m) (h1:¬ 0<B) (h2:Sm<256):Calls Tryz.prog 48 #[.pointer (some ⟨gd,0,none⟩),.int .i64 (z:Int),.int .i64 B,.slice A m c] w (DOne b w gd gv gm gs r Bs N n X (.agg (brr 256 (ov p ((l.drop q).take (256 - p)) f)).toArray)):=by
  have i1:=Za info_brr;have i2:=Za info_u8s;have hz0:=Za zero_block;have H:=Za h;have HLT:=Za h.lt;have HLO:=Za h.lo;obtain ⟨ga,oa,rfl,_,_⟩:=(hD w (Chg.refl _ _)).some_ (by omega);have HDD:=Za hD;have HM:=Za hm;have HPQ:=Za (p:=p≤255∧q<m∧m≤c) ⟨hpq.1,hpq.2,hmc⟩;have HP:=Za hp;have HQ:=Za hq;have hp1:(p:Int)≤256:=by omega
  have hp2:¬ 256=p:=by omega
  obtain ⟨f0,hf0⟩:∃ f0:Nat→UInt8,(fun _=>0)=f0:=⟨_,rfl⟩;have HF0:=Za hf0;rw [hf0] at hz0;have HC:=Za hc;clear h hD hm hpq hmc hp hq hf0 hc;go_enter Tryz.func48,Tryz.ntmps48
  go_wp2_with (first
    | (refine step_alloc rfl 8 rfl 110 rfl _ hz0.out ?_;intro g8 w2 hr2 hg2 hb2 hs2;have HR82:=Za hr2
       have HB2:=Za hb2;have HG8:=Za (p:=w.heap.size≤g8) (Nat.le_of_eq hg2.out.symm);clear hr2 hg2 hb2 hs2;have MK:=trivial)
    | (clear MK;refine step_alloc rfl 9 rfl 110 rfl _ hz0.out ?_;intro g9 w3 hr2 hg2 hb2 hs2;have HR93:=Za hr2
       have HR83:=Za (HR82.out.kept hb2);have HB3:=Za (below_nxt hb2 HB2.out);have HG9:=Za (p:=w.heap.size≤g9∧g8<g9) (by rw [hg2.out];exact ⟨HB2.out.size,HR82.out.lt⟩);clear hr2 hg2 hb2 hs2)
    | (go_at_call 79;refine (dcontent z f (H.out.below HB3.out) HC.out).mono ?_;rintro e w4 ⟨rfl,hk,hc⟩;have HK4:=hk
       have HC4:=Za (p:=Chg [gd] w w4) ((Chg.of (F:=[gd]) HB3.out).trans hc.out (fun x hx=>.inl hx));have HR84:=Za (hc.out.row HR83.out (by have h1:=HLT.out;have h2:=HG8.out;simp;omega));have HR94:=Za (hc.out.row HR93.out (by have h1:=HLT.out;have h2:=HG9.out;simp;omega));clear hk hc)
    | (refine step_store rfl 110 (.tmp 9) (.tmp 21) rfl g9 rfl _ _ (brr 256 f) rfl HR94.out (by rw [brr_len,brr_len]) (i1.out _) (brr_one _ _) ?_;intro w5 hr9 hg9 hs9;have HR95:=Za hr9
       have HK5:=Za ((HK4.out.other HR94.out (by decide) (by have:=HLO.out;have:=HG9.out;omega) (Chg.one hg9)));have HC5:=Za (p:=Chg [gd] w w5) (chg_own HC4.out HG9.out.1 (Chg.one hg9));have HR85:=Za (HR84.out.grown hg9 (fun e=>by have:=HG9.out;injection e;omega));clear hr9 hg9 hs9))
  refine Zq (S:=fun _=>True) (by kernel_rfl) trivial (fun hHeld=>?_);refine Ze (i:=0) (oi:=⟨some 22,.move (.tmp 2),_,_,_,_⟩) (v:=.int .i64 B) rfl (by kernel_rfl) (by kernel_rfl) (by kernel_rfl) (fun _ _ _ h=>h) (.inl ⟨by rfl,fun w hSw=>by go_simp⟩) (by assumption) ?_;simp only [Act.put,Zb,Zc,Zd];refine Ze (i:=1) (oi:=⟨some 23,.call ⟨.builtin .max,#[.tmp 22,.const (.int .i64 0)],#[3,3]⟩,_,_,_,_⟩) (v:=.int .i64 (p:Int)) rfl (by kernel_rfl) (by kernel_rfl) (by kernel_rfl) (fun _ _ _ h=>h) (.inl ⟨by rfl,fun w hSw=>run_max_op w _ (.tmp 22) (.const (.int .i64 0)) _ rfl B 0 _ (by rfl) (by rfl) HP.out⟩) (by assumption) ?_;simp only [Act.put,Zb,Zc,Zd];refine Ze (i:=2) (oi:=⟨some 24,.slice 110 (.tmp 9) (some (.tmp 23)) none none,_,_,_,_⟩) (v:=.slice (some ⟨g9,p,none⟩) (256 - p) (256 - p)) rfl (by kernel_rfl) (by kernel_rfl) (by kernel_rfl) (fun _ _ _ h=>h) (.inl ⟨by rfl,fun w hSw=>by go_simp⟩) (by assumption) ?_;simp only [Act.put,Zb,Zc,Zd];refine Ze (i:=3) (oi:=⟨some 25,.move (.tmp 3),_,_,_,_⟩) (v:=.slice (some ⟨ga,oa,none⟩) m c) rfl (by kernel_rfl) (by kernel_rfl) (by kernel_rfl) (fun _ _ _ h=>h) (.inl ⟨by rfl,fun w hSw=>by go_simp⟩) (by assumption) ?_;simp only [Act.put,Zb,Zc,Zd];refine Ze (i:=4) (oi:=⟨some 26,.move (.tmp 2),_,_,_,_⟩) (v:=.int .i64 B) rfl (by kernel_rfl) (by kernel_rfl) (by kernel_rfl) (fun _ _ _ h=>h) (.inl ⟨by rfl,fun w hSw=>by go_simp⟩) (by assumption) ?_;simp only [Act.put,Zb,Zc,Zd];refine Ze (i:=5) (oi:=⟨some 27,.unOp .neg 3 (.tmp 26),_,_,_,_⟩) (v:=.int .i64 Nz) rfl (by kernel_rfl) (by kernel_rfl) (by kernel_rfl) (fun _ _ _ h=>h) (.inl ⟨by rfl,fun w hSw=>by go_simp⟩) (by assumption) ?_;simp only [Act.put,Zb,Zc,Zd];refine Ze (i:=6) (oi:=⟨some 28,.call ⟨.builtin .max,#[.tmp 27,.const (.int .i64 0)],#[3,3]⟩,_,_,_,_⟩) (v:=.int .i64 (q:Int)) rfl (by kernel_rfl) (by kernel_rfl) (by kernel_rfl) (fun _ _ _ h=>h) (.inl ⟨by rfl,fun w hSw=>run_max_op w _ (.tmp 27) (.const (.int .i64 0)) _ rfl Nz 0 _ (by rfl) (by rfl) HQ.out⟩) (by assumption) ?_;simp only [Act.put,Zb,Zc,Zd];refine Ze (i:=7) (oi:=⟨some 29,.slice 23 (.tmp 25) (some (.tmp 28)) none none,_,_,_,_⟩) (v:=.slice (some ⟨ga,oa+q,none⟩) (m - q) (c - q)) rfl (by kernel_rfl) (by kernel_rfl) (by kernel_rfl) (fun _ _ _ h=>h) (.inl ⟨by rfl,fun w hSw=>run_cutd_op w _ 23 (.tmp 25) (.tmp 28) rfl ga oa m c q (m - q) (c - q) (q:Int) (by rfl) (by rfl) rfl (by have:=HPQ.out;omega) (by have:=HPQ.out;omega) rfl rfl (by kernel_rfl) (by kernel_rfl)⟩) (by assumption) ?_;simp only [Act.put,Zb,Zc,Zd];refine Zp (rs:=[8]) (by kernel_rfl) (by simp) ?_;refine Zl (o:=⟨some 30,.call ⟨.builtin .copy,#[.tmp 24,.tmp 29],#[23,23]⟩,_,_,_,_⟩) rfl (fun K hK=>?_) Zo;have HH:=Za (HDD.out _ (chg_nxt HC5.out (below_drw _)));refine k_copy (.tmp 24) (.tmp 29) 23 23 rfl 5 Tryz.underlying23 i2.out g9 p 256 (256 - p) (256 - p) 110 f (by rfl) HR95.out.drew (some ⟨ga,oa+q,none⟩) (m - q) (c - q) (l.drop q) (by rfl) (by rw [Zs,HM.out]) (hol_drop HH.out q) (by have h1:Nat.min (m - q) (256 - p)≤256 - p:=Nat.min_le_right _ _;have:=HPQ.out;omega) ?_;intro w7 kk hr7 hu7;obtain ⟨F,hF⟩:∃ F,ov p ((l.drop q).take (256 - p)) f=F:=⟨_,rfl⟩;rw [hF] at hr7;have HF:=Za hF;have HR97:=Za hr7;have HC7:=Za (p:=Chg [gd] w w7) (chg_own (chg_nxt HC5.out (below_drw _)) HG9.out.1 (Chg.one hu7.out.by_));have HK7:=Za ((HK5.out.below (below_drw _)).other HR95.out.drew (by decide) (by have:=HLO.out;have:=HG9.out;omega) (Chg.one hu7.out.by_));have HR87:=Za (HR85.out.drew.grown hu7.out.by_ (fun e=>by have:=HG9.out;injection e;omega));clear hr7 hu7 hF;refine hK.out _ _ trivial (fun _hH=>?_);clear hK K;refine Yg (by kernel_rfl) ?_ _
  go_wp2_with (first
    | (refine step_load rfl 31 rfl 110 (.tmp 9) rfl g9 rfl (brr 256 F) _ HR97.out.all Tryz.underlying110 rfl (i1.out _) ?_)
    | (refine step_store rfl 110 (.tmp 8) (.tmp 31) rfl g8 (by rfl) _ _ (brr 256 F) (by rfl) HR87.out (by rw [brr_len,brr_len]) (i1.out _) (brr_one _ _) ?_;intro w9 hr9 hg9 hs9))
  refine Yd (results_cell_row rfl _ _ g8 _ _ _ _ rfl hr9 Tryz.underlying110 rfl (by simpa using i1.out F)) rfl ?_;exact ⟨by rw [HF.out],Za (HK7.out.other HR87.out (by decide) (by have:=HLO.out;have:=HG8.out;omega) (Chg.one hg9)),Za (chg_own HC7.out HG8.out (Chg.one hg9))⟩
theorem dmixed_3 (z:Nat) (f:Nat→UInt8) (h:DK b w gd gv gm gs r Bs N n X) (A:Option Addr) (c m:Nat) (l:L8) (hm:l.length=m) (hmc:m≤c) (hD:∀ W,Chg [gd] w W→Hol W A l) (B Nz Sm:Int) (p q:Nat) (hneg:IntKind.i64.wrap (-B)=Nz) (hsum:IntKind.i64.wrap (B+(m:Int))=Sm)
    (hp:(if (0:Int) > B then 0 else B)=(p:Int)) (hq:(if (0:Int) > Nz then 0 else Nz)=(q:Int)) (hpq:p≤255∧q<m) (h1:¬ 0<B) (h2:¬ Sm<256):Calls Tryz.prog 48 #[.pointer (some ⟨gd,0,none⟩),.int .i64 (z:Int),.int .i64 B,.slice A m c] w (DOne b w gd gv gm gs r Bs N n X (.agg (brr 256 (ov p ((l.drop q).take (256 - p)) (fun _=>0))).toArray)):=by
  have i1:=Za info_brr;have i2:=Za info_u8s;have hz0:=Za zero_block;have H:=Za h;have HLT:=Za h.lt;have HLO:=Za h.lo;obtain ⟨ga,oa,rfl,_,_⟩:=(hD w (Chg.refl _ _)).some_ (by omega);have HDD:=Za hD;have HM:=Za hm;have HPQ:=Za (p:=p≤255∧q<m∧m≤c) ⟨hpq.1,hpq.2,hmc⟩;have HP:=Za hp;have HQ:=Za hq;have hp1:(p:Int)≤256:=by omega
  have hp2:¬ 256=p:=by omega
  obtain ⟨f0,hf0⟩:∃ f0:Nat→UInt8,(fun _=>0)=f0:=⟨_,rfl⟩;have HF0:=Za hf0;rw [hf0] at hz0;clear h hD hm hpq hmc hp hq hf0;go_enter Tryz.func48,Tryz.ntmps48
  go_wp2_with (first
    | (refine step_alloc rfl 8 rfl 110 rfl _ hz0.out ?_;intro g8 w2 hr2 hg2 hb2 hs2;have HR82:=Za hr2
       have HB2:=Za hb2;have HG8:=Za (p:=w.heap.size≤g8) (Nat.le_of_eq hg2.out.symm);clear hr2 hg2 hb2 hs2;have MK:=trivial)
    | (clear MK;refine step_alloc rfl 9 rfl 110 rfl _ hz0.out ?_;intro g9 w3 hr2 hg2 hb2 hs2;have HR93:=Za hr2
       have HR83:=Za (HR82.out.kept hb2);have HB3:=Za (below_nxt hb2 HB2.out);have HG9:=Za (p:=w.heap.size≤g9∧g8<g9) (by rw [hg2.out];exact ⟨HB2.out.size,HR82.out.lt⟩);clear hr2 hg2 hb2 hs2))
  have HR95:=HR93;have HR85:=HR83;have HK5:=Za (H.out.below HB3.out);have HC5:=Za (p:=Chg [gd] w w3) (Chg.of HB3.out);refine Zq (S:=fun _=>True) (by kernel_rfl) trivial (fun hHeld=>?_);refine Ze (i:=0) (oi:=⟨some 22,.move (.tmp 2),_,_,_,_⟩) (v:=.int .i64 B) rfl (by kernel_rfl) (by kernel_rfl) (by kernel_rfl) (fun _ _ _ h=>h) (.inl ⟨by rfl,fun w hSw=>by go_simp⟩) (by assumption) ?_;simp only [Act.put,Zb,Zc,Zd];refine Ze (i:=1) (oi:=⟨some 23,.call ⟨.builtin .max,#[.tmp 22,.const (.int .i64 0)],#[3,3]⟩,_,_,_,_⟩) (v:=.int .i64 (p:Int)) rfl (by kernel_rfl) (by kernel_rfl) (by kernel_rfl) (fun _ _ _ h=>h) (.inl ⟨by rfl,fun w hSw=>run_max_op w _ (.tmp 22) (.const (.int .i64 0)) _ rfl B 0 _ (by rfl) (by rfl) HP.out⟩) (by assumption) ?_;simp only [Act.put,Zb,Zc,Zd];refine Ze (i:=2) (oi:=⟨some 24,.slice 110 (.tmp 9) (some (.tmp 23)) none none,_,_,_,_⟩) (v:=.slice (some ⟨g9,p,none⟩) (256 - p) (256 - p)) rfl (by kernel_rfl) (by kernel_rfl) (by kernel_rfl) (fun _ _ _ h=>h) (.inl ⟨by rfl,fun w hSw=>by go_simp⟩) (by assumption) ?_;simp only [Act.put,Zb,Zc,Zd];refine Ze (i:=3) (oi:=⟨some 25,.move (.tmp 3),_,_,_,_⟩) (v:=.slice (some ⟨ga,oa,none⟩) m c) rfl (by kernel_rfl) (by kernel_rfl) (by kernel_rfl) (fun _ _ _ h=>h) (.inl ⟨by rfl,fun w hSw=>by go_simp⟩) (by assumption) ?_;simp only [Act.put,Zb,Zc,Zd];refine Ze (i:=4) (oi:=⟨some 26,.move (.tmp 2),_,_,_,_⟩) (v:=.int .i64 B) rfl (by kernel_rfl) (by kernel_rfl) (by kernel_rfl) (fun _ _ _ h=>h) (.inl ⟨by rfl,fun w hSw=>by go_simp⟩) (by assumption) ?_;simp only [Act.put,Zb,Zc,Zd];refine Ze (i:=5) (oi:=⟨some 27,.unOp .neg 3 (.tmp 26),_,_,_,_⟩) (v:=.int .i64 Nz) rfl (by kernel_rfl) (by kernel_rfl) (by kernel_rfl) (fun _ _ _ h=>h) (.inl ⟨by rfl,fun w hSw=>by go_simp⟩) (by assumption) ?_;simp only [Act.put,Zb,Zc,Zd];refine Ze (i:=6) (oi:=⟨some 28,.call ⟨.builtin .max,#[.tmp 27,.const (.int .i64 0)],#[3,3]⟩,_,_,_,_⟩) (v:=.int .i64 (q:Int)) rfl (by kernel_rfl) (by kernel_rfl) (by kernel_rfl) (fun _ _ _ h=>h) (.inl ⟨by rfl,fun w hSw=>run_max_op w _ (.tmp 27) (.const (.int .i64 0)) _ rfl Nz 0 _ (by rfl) (by rfl) HQ.out⟩) (by assumption) ?_;simp only [Act.put,Zb,Zc,Zd];refine Ze (i:=7) (oi:=⟨some 29,.slice 23 (.tmp 25) (some (.tmp 28)) none none,_,_,_,_⟩) (v:=.slice (some ⟨ga,oa+q,none⟩) (m - q) (c - q)) rfl (by kernel_rfl) (by kernel_rfl) (by kernel_rfl) (fun _ _ _ h=>h) (.inl ⟨by rfl,fun w hSw=>run_cutd_op w _ 23 (.tmp 25) (.tmp 28) rfl ga oa m c q (m - q) (c - q) (q:Int) (by rfl) (by rfl) rfl (by have:=HPQ.out;omega) (by have:=HPQ.out;omega) rfl rfl (by kernel_rfl) (by kernel_rfl)⟩) (by assumption) ?_;simp only [Act.put,Zb,Zc,Zd];refine Zp (rs:=[8]) (by kernel_rfl) (by simp) ?_;refine Zl (o:=⟨some 30,.call ⟨.builtin .copy,#[.tmp 24,.tmp 29],#[23,23]⟩,_,_,_,_⟩) rfl (fun K hK=>?_) Zo;have HH:=Za (HDD.out _ (chg_nxt HC5.out (below_drw _)));refine k_copy (.tmp 24) (.tmp 29) 23 23 rfl 5 Tryz.underlying23 i2.out g9 p 256 (256 - p) (256 - p) 110 f0 (by rfl) HR95.out.drew (some ⟨ga,oa+q,none⟩) (m - q) (c - q) (l.drop q) (by rfl) (by rw [Zs,HM.out]) (hol_drop HH.out q) (by have h1:Nat.min (m - q) (256 - p)≤256 - p:=Nat.min_le_right _ _;have:=HPQ.out;omega) ?_;intro w7 kk hr7 hu7;obtain ⟨F,hF⟩:∃ F,ov p ((l.drop q).take (256 - p)) f0=F:=⟨_,rfl⟩;rw [hF] at hr7;have HF:=Za hF;have HR97:=Za hr7;have HC7:=Za (p:=Chg [gd] w w7) (chg_own (chg_nxt HC5.out (below_drw _)) HG9.out.1 (Chg.one hu7.out.by_));have HK7:=Za ((HK5.out.below (below_drw _)).other HR95.out.drew (by decide) (by have:=HLO.out;have:=HG9.out;omega) (Chg.one hu7.out.by_));have HR87:=Za (HR85.out.drew.grown hu7.out.by_ (fun e=>by have:=HG9.out;injection e;omega));clear hr7 hu7 hF;refine hK.out _ _ trivial (fun _hH=>?_);clear hK K;refine Yg (by kernel_rfl) ?_ _
  go_wp2_with (first
    | (refine step_load rfl 31 rfl 110 (.tmp 9) rfl g9 rfl (brr 256 F) _ HR97.out.all Tryz.underlying110 rfl (i1.out _) ?_)
    | (refine step_store rfl 110 (.tmp 8) (.tmp 31) rfl g8 (by rfl) _ _ (brr 256 F) (by rfl) HR87.out (by rw [brr_len,brr_len]) (i1.out _) (brr_one _ _) ?_;intro w9 hr9 hg9 hs9))
  refine Yd (results_cell_row rfl _ _ g8 _ _ _ _ rfl hr9 Tryz.underlying110 rfl (by simpa using i1.out F)) rfl ?_;exact ⟨by rw [HF0.out,HF.out],Za (HK7.out.other HR87.out (by decide) (by have:=HLO.out;have:=HG8.out;omega) (Chg.one hg9)),Za (chg_own HC7.out HG8.out (Chg.one hg9))⟩
theorem mix_ov {l:L8} {B:Int} {p q m:Nat} {f:Nat→UInt8} (hm:l.length=m) (hB:(B=(p:Int)∧q=0)∨(B= -(q:Int)∧p=0)) (hp:p≤255) (hq:q<m):brr 256 (ov p ((l.drop q).take (256 - p)) f)=brr 256 (mixF l B f):=brr_same fun j hj=>by
  unfold ov mixF;have hlen:((l.drop q).take (256 - p)).length=min (256 - p) (m - q):=by rw [Zu,Zs,hm]
  rw [hlen,hm];by_cases h:p≤j∧j<p+min (256 - p) (m - q)
  · rw [if_pos h,if_pos (by omega)];rw [List.getD_eq_getElem?_getD,List.getD_eq_getElem?_getD,List.getElem?_take,if_pos (by omega),List.getElem?_drop];rw [show q+(j - p)=((j:Int) - B).toNat by omega]
  · rw [if_neg h,if_neg (by omega)]
theorem dmixed (z:Nat) (f:Nat→UInt8) (h:DK b w gd gv gm gs r Bs N n X) (hc:Cont X Bs z f) (A:Option Addr) (c m:Nat) (l:L8) (hm:l.length=m) (hmc:m≤c) (hm3:1≤m∧m≤32768) (hD:∀ W,Chg [gd] w W→Hol W A l) (B:Int) (hB: -32768≤B∧B≤255) (hB2:0<B+(m:Int)):
    Calls Tryz.prog 48 #[.pointer (some ⟨gd,0,none⟩),.int .i64 (z:Int),.int .i64 B,.slice A m c] w (DOne b w gd gv gm gs r Bs N n X (.agg (brr 256 (mixF l B f)).toArray)):=by
  have hneg:IntKind.i64.wrap (-B)= -B:=by rw [Zg];omega
  have hsum:IntKind.i64.wrap (B+(m:Int))=B+(m:Int):=by rw [Zg];omega
  obtain ⟨p,q,h1,h2,h3,h4⟩:∃ p q:Nat,((B=(p:Int)∧q=0)∨(B= -(q:Int)∧p=0))∧(if (0:Int) > B then 0 else B)=(p:Int)∧(if (0:Int) > -B then 0 else -B)=(q:Int)∧(p≤255∧q<m):=by
    by_cases hb:0≤B
    · refine ⟨B.toNat,0,.inl ⟨by omega,rfl⟩,?_,?_,by omega⟩
      · rw [if_neg (by omega)];omega
      · split <;> omega
    · refine ⟨0,(-B).toNat,.inr ⟨by omega,rfl⟩,?_,?_,by omega⟩
      · rw [if_pos (by omega)];rfl
      · rw [if_neg (by omega)];omega
  by_cases hb:0<B
  · rw [← mix_ov hm h1 h4.1 h4.2];exact dmixed_1 z f h hc A c m l hm hmc hD B _ _ p q hneg hsum h2 h3 h4 hb
  · by_cases hs:B+(m:Int)<256
    · rw [← mix_ov hm h1 h4.1 h4.2];exact dmixed_2 z f h hc A c m l hm hmc hD B _ _ p q hneg hsum h2 h3 h4 hb hs
    · have e:brr 256 (mixF l B f)=brr 256 (mixF l B fun _=>0):=brr_same fun j hj=>by
        unfold mixF;rw [if_pos (by omega),if_pos (by omega)]
      rw [e, ← mix_ov hm h1 h4.1 h4.2];exact dmixed_3 z f h A c m l hm hmc hD B _ _ p q hneg hsum h2 h3 h4 hb hs
end
/- Files:slots taken for a file's holes,and the inode then. Conditions:those named. -/
theorem info_plan:(Tryz.prog.info? 106).map (·.size)=some 516:=by kernel_rfl
def supU (s:Nat) (i:Nat→Int) (o:Nat→Bool) (m:Nat):Sup:=⟨s,fun j=>decide (j<m),i,o⟩
theorem supU_next (s:Nat) (i:Nat→Int) (o:Nat→Bool) (m:Nat):(supU s i o m).setU m true=supU s i o (m+1):=by
  unfold Sup.setU supU;congr 1;funext j;unfold at1;by_cases h:j=m
  · rw [if_pos h];simp;omega
  · rw [if_neg h];congr 1;simp;omega
section
variable {w w':World} {gp:Nat} {S:Sup} {T:List Value} {N:Nat}
theorem ptake_have (i:Nat) (z:Int) (hr:Row w gp 106 (S.cs++T)) (hi:T[i]?=some (.int .i64 z)) (hz:z≠0) (p:Nat) (hp:387+i=p):Calls Tryz.prog 87 #[.pointer (some ⟨gp,0,none⟩),.pointer (some ⟨gp,p,none⟩),.int .i64 (N:Int)] w fun e w'=>e=.returned (.bool true)∧w=w':=by
  have c1:w.cell? ⟨gp,p,none⟩=some (.int .i64 z):=by rw [hr.cell, ← hp,Zm (by rw [Sup.cs_len];omega),Sup.cs_len,Nat.add_sub_cancel_left];exact hi
  have h0:(z==0)=false:=beq_false_of_ne hz;have h1:(z !=0)=true:=by simpa using hz
  clear hr hi hz hp;go_enter Tryz.func87,Tryz.ntmps87;go_wp2;go_ret;exact ⟨rfl,rfl⟩
theorem ptake_new (i k:Nat) (hr:Row w gp 106 (S.cs++T)) (hi:T[i]?=some (.int .i64 0)) (hk:0<k∧k<256∧k<N) (hu:S.u k=false) (hb:∀ j,j<k→S.u j=true) (p:Nat) (hp:387+i=p):Calls Tryz.prog 87 #[.pointer (some ⟨gp,0,none⟩),.pointer (some ⟨gp,p,none⟩),.int .i64 (N:Int)] w fun e w'=>e=.returned (.bool true)∧Hid (Row w' gp 106 ((S.setU k true).cs++T.set i (.int .i64 (k:Int))))∧Hid (Chg [gp] w w'):=by
  have c1:w.cell? ⟨gp,p,none⟩=some (.int .i64 0):=by rw [hr.cell, ← hp,Zm (by rw [Sup.cs_len];omega),Sup.cs_len,Nat.add_sub_cancel_left];exact hi
  have HTK:=Za (take_ok S (N:Int) k hk.2.1 (by omega) hu hb);have i1:=Za (fun x:Sup=>info_cs x);have HR:=Za hr;have HP:=Za hp;have hk0:((k:Int) !=0)=true:=by simp;omega
  clear hr hi hk hu hb hp;go_enter Tryz.func87,Tryz.ntmps87
  go_wp2_with (first
    | (refine step_load_at rfl 76 (.tmp 16) rfl gp 0 (by rfl) 106 [] S.cs T _ HR.out rfl Yj rfl (i1.out _) ?_)
    | (go_at_call 66;refine (HTK.out _).mono ?_;rintro e w4 ⟨rfl,hb⟩;have HB4:=Za hb
       have HR4:=Za (HR.out.kept hb);clear hb)
    | (refine step_store_at rfl 76 (.tmp 24) (.tmp 20) rfl gp 0 (by rfl) 106 [] S.cs (S.setU k true).cs T (by rfl) HR4.out rfl (by simp [Sup.cs_len]) (i1.out _) (Sup.cs_one _) ?_;intro w5 hr5 hg5
       have HR5:=Za (p:=Row w5 gp 106 ((S.setU k true).cs++T)) hr5;have HC5:=Za (p:=Chg [gp] w w5) ((Chg.of (F:=[gp]) HB4.out).trans (Chg.one hg5) (fun x hx=>.inl hx));have f5:=HR5.out.free p
       obtain ⟨u5,c5⟩:∃ u5,w5.cell? ⟨gp,p,none⟩=some u5:=by
         rw [HR5.out.cell];have h1:=HR.out.cell p;rw [c1] at h1;have h2:p<(S.cs++T).length:=(Zn.1 h1.symm).1;exact ⟨_,Zh (by rw [Zf,Sup.cs_len] at h2 ⊢;exact h2)⟩
       clear hr5 hg5 c1)
    | fail)
  go_ret;have h9:=HR5.out.put p (.int .i64 (k:Int));rw [← HP.out,List.set_append_right _ _ (by rw [Sup.cs_len];omega),Sup.cs_len,Nat.add_sub_cancel_left,HP.out] at h9;exact ⟨rfl,Za h9,Za (HC5.out.setCell (p:=⟨gp,p,none⟩) (.inl (by simp)) _)⟩
end
def zc (R:Nat→Int) (first:Nat):Nat→Nat
  | 0=>0
  | k+1=>zc R first k+if R (first+k)=0 then 1 else 0
theorem zc_succ (R:Nat→Int) (first k:Nat):zc R first (k+1)=zc R first k+if R (first+k)=0 then 1 else 0:=rfl
theorem zc_le (R:Nat→Int) (first:Nat):∀ k,zc R first k≤k
  | 0=>Zj _
  | k+1=>by have:=zc_le R first k;unfold zc;split <;> omega
theorem zc_mono (R:Nat→Int) (first:Nat):∀ k j,k≤j→zc R first k≤zc R first j
  | k,0,h=>by rw [Nat.le_zero.1 h];exact Zj _
  | k, j+1,h=>by
    by_cases e:k=j+1
    · rw [e];exact Zj _
    · have h1:=zc_mono R first k j (by omega)
      have h2:zc R first (j+1)=zc R first j+if R (first+j)=0 then 1 else 0:=rfl
      omega
def flR (R:Nat→Int) (m first k:Nat) (j:Nat):Int:=if first≤j∧j<first+k∧R j=0 then ((m+zc R first (j - first):Nat):Int) else R j
theorem flR_zero (R:Nat→Int) (m first:Nat):flR R m first 0=R:=by
  funext j;unfold flR;rw [if_neg (by omega)]
theorem flR_have {R:Nat→Int} {m first k:Nat} (h:R (first+k)≠0):flR R m first (k+1)=flR R m first k:=by
  funext j;unfold flR;by_cases hj:first≤j∧j<first+k∧R j=0
  · rw [if_pos hj,if_pos ⟨hj.1,by omega,hj.2.2⟩]
  · rw [if_neg hj];by_cases e:j=first+k
    · subst e;rw [if_neg (fun h'=>h h'.2.2)]
    · rw [if_neg (fun h'=>hj ⟨h'.1,by omega,h'.2.2⟩)]
theorem flR_new {R:Nat→Int} {m first k:Nat} (h:R (first+k)=0):flR R m first (k+1)=at1 (flR R m first k) (first+k) ((m+zc R first k:Nat):Int):=by
  funext j;unfold at1;by_cases e:j=first+k
  · rw [if_pos e];subst e;unfold flR;rw [if_pos ⟨by omega,by omega,h⟩,Nat.add_sub_cancel_left]
  · rw [if_neg e];unfold flR;by_cases hj:first≤j∧j<first+k∧R j=0
    · rw [if_pos hj,if_pos ⟨hj.1,by omega,hj.2.2⟩]
    · rw [if_neg hj,if_neg (fun h'=>hj ⟨h'.1,by omega,h'.2.2⟩)]
theorem flR_at {R:Nat→Int} {m first k:Nat}:flR R m first k (first+k)=R (first+k):=by
  unfold flR;rw [if_neg (by omega)]
def ptl (R:Nat→Int) (L:Int):List Value:=inl 128 R++[.int .i64 L]
theorem ptl_row (R:Nat→Int) (L:Int) {j:Nat} (h:j<128):(ptl R L)[j]?=some (.int .i64 (R j)):=by
  unfold ptl;rw [Zv (by rw [inl_len];exact h),inl_get _ h]
theorem ptl_list (R:Nat→Int) (L:Int):(ptl R L)[128]?=some (.int .i64 L):=by
  unfold ptl;rw [Zm (by rw [inl_len];exact Zj _),inl_len];rfl
theorem ptl_set (R:Nat→Int) (L z:Int) {j:Nat} (h:j<128):(ptl R L).set j (.int .i64 z)=ptl (at1 R j z) L:=by
  unfold ptl;rw [List.set_append_left _ _ (by rw [inl_len];exact h),inl_set _ _ h]
theorem ptl_setL (R:Nat→Int) (L z:Int):(ptl R L).set 128 (.int .i64 z)=ptl R z:=by
  unfold ptl;rw [List.set_append_right _ _ (by rw [inl_len];exact Zj _),inl_len];rfl
def flL (e:Nat) (L:Int) (m:Nat):Int:=if e≤16∨L≠0 then L else (m:Int)
def flM (e:Nat) (L:Int) (m:Nat):Nat:=if e≤16∨L≠0 then m else m+1
theorem pfill (w : World) (gp:Nat) (s:Nat) (i:Nat→Int) (oo:Nat→Bool) (m:Nat) (R:Nat→Int) (L:Int) (N first cnt e:Nat) (he:first+cnt=e) (he2:e≤128) (hm:1≤m) (hN:N≤256) (hroom:m+zc R first cnt+1≤N)
    (hr:Row w gp 106 ((supU s i oo m).cs++ptl R L)):
    Calls Tryz.prog 47 #[.pointer (some ⟨gp,0,none⟩),.int .i64 (first:Int),.int .i64 (e:Int),.int .i64 (N:Int)] w fun ee w'=>ee=.returned (.bool true)∧
      Hid (Row w' gp 106 ((supU s i oo (flM e L (m+zc R first cnt))).cs++ptl (flR R m first cnt) (flL e L (m+zc R first cnt))))∧Hid (Chg [gp] w w'):=by
  have hsub:IntKind.i64.wrap ((e:Int) - (first:Int))=(cnt:Int):=by rw [Zg];omega
  have HR:=Za hr;have HF:=Za (p:=first+cnt=e∧e≤128∧1≤m∧N≤256∧m+zc R first cnt+1≤N) ⟨he,he2,hm,hN,hroom⟩
  have HTK:=Za (p:=∀ (W:World) (k:Nat) (R':Nat→Int) (j:Nat),Row W gp 106 ((supU s i oo k).cs++ptl R' L)→0<k∧k<256∧k<N→j<128→R' j=0→Calls Tryz.prog 87 #[.pointer (some ⟨gp,0,none⟩),.pointer (some ⟨gp,387+j,none⟩),.int .i64 (N:Int)] W fun e w'=>e=.returned (.bool true)∧Hid (Row w' gp 106 ((supU s i oo (k+1)).cs++ptl (at1 R' j (k:Int)) L))∧Hid (Chg [gp] W w')) (fun W k R' j hW hk hj h0=>by
    have h1:=ptake_new (N:=N) j k hW (by rw [ptl_row _ _ hj,h0]) hk (by simp [supU]) (fun q hq=>by simp [supU,hq]) (387+j) rfl;rw [supU_next,ptl_set _ _ _ hj] at h1;exact h1)
  clear hr he he2 hm hN hroom;go_enter Tryz.func47,Tryz.ntmps47;go_wp2;go_loopw [13] (fun x wr=>∃ k:Nat,Hid (k≤cnt)∧x=.int .i64 (k:Int)∧Hid (Row wr gp 106 ((supU s i oo (m+zc R first k)).cs++ptl (flR R m first k) L))∧Hid (Chg [gp] w wr)) (fun x _=>cnt - (intOf x).toNat)
  case atStart=>exact ⟨0,Za (Nat.zero_le _),rfl,Za (by rw [flR_zero];exact HR.out),Za (Chg.refl _ _)⟩
  case round=>
    obtain ⟨k,HK,rfl,HRW,HCW⟩:=hrel;by_cases hk:k<cnt
    · have hki : (k : Int)<(cnt:Int):=by omega
      have hf:=HF.out;have hzl:=zc_le R first k
      have hzm:=zc_mono R first (k+1) cnt (by omega)
      obtain ⟨j,hj⟩:∃ j,first+k=j:=⟨_,rfl⟩
      have hjw:IntKind.i64.wrap ((first:Int)+(k:Int))=(j:Int):=by rw [Zg];omega
      have hj128:(j:Int)<128:=by omega
      have hkw:IntKind.i64.wrap ((k:Int)+1)=(k:Int)+1:=by rw [Zg];omega
      by_cases h0:R j=0
      · have hzs : zc R first (k+1)=zc R first k+1:=by rw [zc_succ,hj,if_pos h0]
        have HT:=Za (HTK.out wr (m+zc R first k) (flR R m first k) j HRW.out (by omega) (by omega) (by rw [← hj,flR_at,hj,h0]));have HX:=Za (p:=(supU s i oo (m+zc R first k+1)).cs++ptl (at1 (flR R m first k) j ((m+zc R first k:Nat):Int)) L=(supU s i oo (m+zc R first (k+1))).cs++ptl (flR R m first (k+1)) L) (by rw [flR_new (by rw [hj];exact h0),hzs,hj];rfl);have HKK:=Za hk;clear hk hf hzl hzm hj h0 hzs
        go_wp2_with (go_at_call 87;refine HT.out.mono ?_;rintro e w4 ⟨rfl,hr4,hc4⟩;have HR4:=Za (HX.out ▸ hr4.out)
                     have HC4:=Za (chg_same HCW.out hc4.out);clear hr4 hc4)
        go_roundw
        case rel=>exact ⟨k+1,HKK,by go_num,HR4,HC4⟩
        case measure=>have:=HKK.out;simp [intOf];omega
      · have hzs:zc R first (k+1)=zc R first k:=by rw [zc_succ,hj,if_neg h0,Nat.add_zero]
        have HT:=Za (ptake_have (N:=N) j (R j) HRW.out (by rw [ptl_row _ _ (by omega), ← hj,flR_at]) h0 (387+j) rfl);have HX:=Za (p:=(supU s i oo (m+zc R first k)).cs++ptl (flR R m first k) L=(supU s i oo (m+zc R first (k+1))).cs++ptl (flR R m first (k+1)) L) (by rw [flR_have (by rw [hj];exact h0),hzs]);have HKK:=Za hk;clear hk hf hzl hzm hj h0 hzs;go_wp2_with (go_at_call 87;refine HT.out.mono ?_;rintro e w4 ⟨rfl,rfl⟩);go_roundw
        case rel=>exact ⟨k+1,HKK,by go_num,Za (HX.out ▸ HRW.out),HCW⟩
        case measure=>have:=HKK.out;simp [intOf];omega
    · have hkz : ¬ (k : Int)<(cnt:Int):=by omega
      have hke:k=cnt:=by have:=HK.out;omega
      subst hke;have hf:=HF.out;by_cases h16:e≤16
      · have h16i:(e:Int)≤16:=by omega
        have HX:=Za (p:=flM e L (m+zc R first k)=m+zc R first k∧flL e L (m+zc R first k)=L) ⟨if_pos (.inl h16),if_pos (.inl h16)⟩;clear hk hf h16;go_wp2;go_ret;exact ⟨rfl,Za (by rw [HX.out.1,HX.out.2];exact HRW.out),HCW⟩
      · have h16i : ¬ (e:Int)≤16:=by omega
        by_cases hL:L=0
        · have HX := Za (p:=flM e L (m+zc R first k)=m+zc R first k+1∧flL e L (m+zc R first k)=((m+zc R first k:Nat):Int)) ⟨if_neg (by simp [hL];omega),if_neg (by simp [hL];omega)⟩;have HT:=Za (ptake_new (N:=N) 128 (m+zc R first k) HRW.out (by rw [ptl_list,hL]) (by omega) (by simp [supU]) (fun q hq=>by simp [supU,hq]) 515 rfl);clear hk hf h16 hL
          go_wp2_with (go_at_call 87;refine HT.out.mono ?_;rintro e w4 ⟨rfl,hr4,hc4⟩;have HR4:=hr4
                       have HC4:=Za (chg_same HCW.out hc4.out);clear hr4 hc4)
          go_ret;refine ⟨rfl,Za ?_,HC4⟩;have h9:=HR4.out;rw [supU_next,ptl_setL] at h9;rw [HX.out.1,HX.out.2];exact h9
        · have HX:=Za (p:=flM e L (m+zc R first k)=m+zc R first k∧flL e L (m+zc R first k)=L) ⟨if_pos (.inr hL),if_pos (.inr hL)⟩;have HT:=Za (ptake_have (N:=N) 128 L HRW.out (ptl_list _ _) hL 515 rfl);clear hk hf h16 hL;go_wp2_with (go_at_call 87;refine HT.out.mono ?_;rintro e w4 ⟨rfl,rfl⟩);go_ret;exact ⟨rfl,Za (by rw [HX.out.1,HX.out.2];exact HRW.out),HCW⟩
end Go.Proofs.YtijffkklhgnknaaGreatDoor
