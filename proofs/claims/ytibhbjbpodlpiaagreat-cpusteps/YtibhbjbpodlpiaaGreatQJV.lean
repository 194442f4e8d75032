/-
  Contracts over the translation. No statement is proved here.
-/
import Derived.Test.YtibhbjbpodlpiaaGreatQCpuStep2
set_option maxRecDepth 100000
set_option maxHeartbeats 8000000
namespace Go.Proofs.YtibhbjbpodlpiaaGreat
open Go.RowKit
open Go.Value renaming int → U, bool → β, pointer → π, tuple → τ
open Go.IntKind renaming i64 → κ, u32 → μ
open Go.Obj renaming cells → ω
open Go.Ending renaming returned → ρ
open Go.Proofs.Tryz renaming prog → pQ
open List renaming setIfInBounds_toArray → sA, set_cons_succ → sB, set_cons_zero → sC
def Wk.re (X:Wk) (p t:Nat) (v:Option Nat):Wk:={ X with p:=p,t:=t,v:=v }
theorem ldX_re (M:Mc) (nf:Nat) (X:Wk) (size:Int) (p t:Nat) (v:Option Nat):ldX M nf (X.re p t v) size=(ldX M nf X size).re p t v:=by
 show(if (dT M nf X size 1 2).ca≠0 then X.re p t v else _)=_
 unfold ldX
 split <;> rfl
theorem rdX_re (X:Wk) (p t:Nat) (v:Option Nat):rdX (X.re p t v)=(rdX X).re p t v:=by
 show(if (6:Int)<(X.imm:Int) then X.re p t v else _)=_
 unfold rdX
 split <;> rfl
theorem wrX_re (X:Wk) (p t:Nat) (v:Option Nat):wrX (X.re p t v)=(wrX X).re p t v:=by
 show(if (5:Int)<(X.imm:Int) then X.re p t v else _)=_
 unfold wrX
 split <;> rfl
theorem exec_re (nf:Nat) (M:Mc) (X:Wk) (p t:Nat) (v:Option Nat):ji nf M (X.re p t v)=((ji nf M X).1,(ji nf M X).2.1.re p t v,(ji nf M X).2.2):=by
 have h1:=ldX_re M nf X 4 p t v
 have h2:=ldX_re M nf X 1 p t v
 have h3:=rdX_re X p t v
 have h4:=wrX_re X p t v
 have hx:(X.re p t v).op=X.op:=rfl
 by_cases hk:X.op≤24
 ·have:X.op=0∨X.op=1∨X.op=2∨X.op=3∨X.op=4∨X.op=5∨X.op=6∨X.op=7∨X.op=8∨X.op=9∨X.op=10∨X.op=11∨X.op=12∨X.op=13∨X.op=14∨X.op=15∨X.op=16∨X.op=17∨X.op=18∨X.op=19∨X.op=20∨X.op=21∨X.op=22∨X.op=23∨X.op=24:=by omega
  rcases this with ho | ho | ho | ho | ho | ho | ho | ho | ho | ho | ho | ho | ho | ho | ho | ho | ho | ho | ho | ho | ho | ho | ho | ho | ho
  all_goals
   unfold ji
   rw[hx,ho]
   try first
    | rfl
    | (simp only[h1];rfl)
    | (simp only[h2];rfl)
    | (simp only[h3];rfl)
    | (simp only[h4];rfl)
 ·obtain ⟨j,ho⟩:∃ j,X.op=j+25:=⟨X.op-25,by omega⟩
  unfold ji
  rw[hx,ho]
  rfl
theorem doR_re (nf:Nat) (M:Mc) (X:Wk) (p t:Nat) (v:Option Nat):doR nf M (X.re p t v)=((doR nf M X).1,(doR nf M X).2.1.re p t v,(doR nf M X).2.2):=by
 have h1:fX nf M (X.re p t v)=(fX nf M X).re p t v:=rfl
 have h2:∀ Y:Wk,dX (Y.re p t v)=(dX Y).re p t v:=fun _=>rfl
 have h3:doM nf M (X.re p t v)=doM nf M X:=rfl
 unfold doR
 rw[h1,h2,h3]
 show(if (rcF M nf X.vm X.sd X.fi X.se X.pc 4).k≠0 then(doM nf M X,X.re p t v,(⟨1,0,X.pc,rcF M nf X.vm X.sd X.fi X.se X.pc 4⟩:Tr)) else if dp ((fX nf M X).wd:Int)=false then(doM nf M X,(fX nf M X).re p t v,⟨8,(fX nf M X).wd,X.pc,f0⟩) else if isG (dX (fX nf M X)).op=true∧M.V=none then(doM nf M X,(dX (fX nf M X)).re p t v,⟨8,(fX nf M X).wd,X.pc,f0⟩) else ji nf (doM nf M X) ((dX (fX nf M X)).re p t v))=_
 split
 ·rfl
 ·split
  ·rfl
  ·split
   ·rfl
   ·exact exec_re nf _ _ p t v
def wkP (v:Bool) (c:Cp) (vm se ix:Int):Wk:=⟨0,0,none,vm,spA v c,spF v c,se,ix,c.pc,0,0,0,0,0,0,c.setP ((c.pc+4)%65536)⟩
def dx (nf:Nat) (M:Mc) (c:Cp) (vm se ix:Int):Mc×Cp×Tr:=
 if c.bad then(M,c,⟨4,0,c.pc,f0⟩) else((doR nf M (wkP M.V.isSome c vm se ix)).1,stC c (doR nf M (wkP M.V.isSome c vm se ix)),(doR nf M (wkP M.V.isSome c vm se ix)).2.2)
theorem good_wipe' {M:Mc} {n:Nat} (h:M.few n) (X:Wk):(fgM M X).few n:=⟨h.fo,h.mi,h.sum,good_wipe h.good _,uniq_wipe h.uniq _⟩
theorem few_V {M:Mc} {n:Nat} (h:M.few n) (V:Option Vg):({ M with V:=V }:Mc).few n:=⟨h.fo,h.mi,h.sum,h.good,h.uniq⟩
theorem few_bs {M:Mc} {n:Nat} (h:M.few n) (bs:List UInt8):({ M with bs:=bs }:Mc).few n:=⟨h.fo,h.mi,h.sum,h.good,h.uniq⟩
theorem few_st {M:Mc} {n:Nat} (h:M.few n) (nf:Nat) (X:Wk) (size:Int):(stM M nf X size).few (n+1):=by
 unfold stM
 split
 ·exact few_d h nf X size 2
 ·exact few_bs (few_d h nf X size 2) _
theorem few_wr {M:Mc} {n:Nat} (h:M.few n) (S:Vg) (X:Wk):(wrM M S X).few n:=by
 unfold wrM
 repeat' split
 ·exact h
 ·exact few_V h _
 ·exact h
theorem few_exec {M:Mc} {n:Nat} (h:M.few n) (nf:Nat) (X:Wk):(ji nf M X).1.few (n+1):=by
 unfold ji
 split
 all_goals first
  | exact j0 h (Nat.le_succ n)
  | exact few_d h nf X _ _
  | exact few_st h nf X _
  | exact j0 (few_wr h _ X) (Nat.le_succ n)
  | exact j0 (few_V h _) (Nat.le_succ n)
  | exact j0 (good_wipe' h X) (Nat.le_succ n)
theorem few_do {M:Mc} {n:Nat} (h:M.few n) (nf:Nat) (X:Wk):(doR nf M X).1.few (n+2):=by
 have hm:(doM nf M X).few (n+1):=p6 h _ _ _ _ _ _ _ _
 unfold doR
 split
 ·exact j0 hm (by omega)
 ·split
  ·exact j0 hm (by omega)
  ·split
   ·exact j0 hm (by omega)
   ·exact few_exec hm nf _
theorem few_step {M:Mc} {n:Nat} (h:M.few n) (nf:Nat) (c:Cp) (vm se ix:Int):(dx nf M c vm se ix).1.few (n+2):=by
 unfold dx
 split
 ·exact j0 h (by omega)
 ·exact few_do h nf _
theorem IsV.same {w:World} {b:Option Bk} {V:Option Vg} (h:IsV w b V):b.isSome=V.isSome:=by
 cases b <;> cases V <;> first | rfl | exact h.elim
theorem step_any (w:World) (N:Nat) (B:Bm) (nf:Nat) (M:Mc) (c:Cp) (hok:c.Ok) (vm se ix:Int) (hO:Ops w N) (hM:IsMc w B nf M) {n:Nat} (hm:M.few n) (hn:n+1<999990) (sep:∀ k,(B.s k∨k=B.p)→k<N∨N+30≤k) :
  Calls pQ 27 #[.slice (some ⟨N+29,0,none⟩) 26 26,.agg #[π (some ⟨B.p,0,none⟩),π (some ⟨B.bt,0,none⟩),gu (B.v.map Bk.b)],.agg (cpA c),U κ vm,U κ se,U κ ix] w fun e w'=>e=ρ (τ #[.agg (cpA (dx nf M c vm se ix).2.1),.agg (trL (dx nf M c vm se ix).2.2)])∧Fr B.s w w'∧IsMc w' B nf (dx nf M c vm se ix).1∧(dx nf M c vm se ix).2.1.Ok:=by
 by_cases hb:c.bad
 ·have e:dx nf M c vm se ix=(M,c,⟨4,0,c.pc,f0⟩):=if_pos hb
  rw[e]
  exact(step_bad w B.p B.bt _ c hb _ vm se ix).mono (fun e w' ⟨a,f⟩=>⟨a,f.mono (fun _ _ h=>h.elim),hM.keep0 f,hok⟩)
 ·have e:dx nf M c vm se ix=((doR nf M (wkP M.V.isSome c vm se ix)).1,stC c (doR nf M (wkP M.V.isSome c vm se ix)),(doR nf M (wkP M.V.isSome c vm se ix)).2.2):=if_neg hb
  have h1:wk1 B c vm se ix=(wkP M.V.isSome c vm se ix).re B.p B.bt (B.v.map Bk.b):=by rw[←hM.vg.same];rfl
  have h2:=step_ok w N B nf M c hb hok vm se ix hO hM hm hn sep
  rw[h1,doR_re] at h2
  rw[e]
  exact h2
theorem ja {w w':World} {B:Bm} {nf:Nat} {M:Mc} {g:Nat} (h:IsMc w B nf M) (f:Fr (at' g) w w') (hn:∀ j,(B.s j∨j=B.p)→¬ at' g j):IsMc w' B nf M:=
 h.keep f (hn _ (Or.inr rfl)) (hn _ (Or.inl (Or.inl rfl))) (hn _ (Or.inl (Or.inr (Or.inl rfl)))) (fun k hk=>hn k (Or.inl (Or.inr (Or.inr hk))))
theorem Step_any (w:World) (B:Bm) (nf:Nat) (M:Mc) (c:Cp) (hok:c.Ok) (vm se ix:Int) (hM:IsMc w B nf M) {n:Nat} (hm:M.few n) (hn:n+1<999990) :
  Calls pQ 6 #[.agg #[π (some ⟨B.p,0,none⟩),π (some ⟨B.bt,0,none⟩),gu (B.v.map Bk.b)],.agg (cpA c),U κ vm,U κ se,U κ ix] w fun e w'=>e=ρ (τ #[.agg (cpA (dx nf M c vm se ix).2.1),.agg (trL (dx nf M c vm se ix).2.2)])∧Fr B.s w w'∧IsMc w' B nf (dx nf M c vm se ix).1∧(dx nf M c vm se ix).2.1.Ok:=by
 obtain ⟨R,hR⟩:∃ R,dx nf M c vm se ix=R:=⟨_,rfl⟩
 rw[hR]
 have HB:Hid (∀ k,(B.s k∨k=B.p)→k<w.heap.size):=hM.ltp
 have hz:∀ w,Sem.run pQ (zeroValue 30) w=.ok (.agg (cpA zc)) w:=my
 obtain ⟨v0,hv0⟩:∃ v0,v0=(((w.alloc (ω #[π (some ⟨B.p,0,none⟩),π (some ⟨B.bt,0,none⟩),gu (B.v.map Bk.b)] 37)).alloc (ω (cpA c) 30)).alloc (ω (cpA zc) 30)).alloc (ω #[U κ 0,U κ 0,U κ 0,U κ 0,U κ 0,U κ 0,β false,U κ 0] 52):=⟨_,rfl⟩
 have f0:Fr bg w v0:=by rw[hv0];exact((((Fr.refl bg w).alloc _).alloc _).alloc _).alloc _
 have rM:Row v0 w.heap.size #[π (some ⟨B.p,0,none⟩),π (some ⟨B.bt,0,none⟩),gu (B.v.map Bk.b)] 37:=by rw[hv0];exact(((ba _ _ _).alloc _).alloc _).alloc _
 have rA:Row v0 (w.heap.size+1) (cpA c) 30:=by rw[hv0];exact((dq (by simp)).alloc _).alloc _
 have rZ:Row v0 (w.heap.size+1+1) (cpA zc) 30:=by rw[hv0];exact(dq (by simp)).alloc _
 have rT:Row v0 (w.heap.size+1+1+1) #[U κ 0,U κ 0,U κ 0,U κ 0,U κ 0,U κ 0,β false,U κ 0] 52:=by rw[hv0];exact dq (by simp)
 have hsz:Hid (v0.heap.size=w.heap.size+4):=by show _=_;rw[hv0];simp
 go_enter Tryz.func6,Tryz.ntmps6
 go_upto_region 1 with fail
 rw[←hv0]
 clear hv0 hz
 obtain ⟨gM,hgM⟩:∃ g,g=w.heap.size:=⟨_,rfl⟩
 obtain ⟨gA,hgA⟩:∃ g,g=w.heap.size+1:=⟨_,rfl⟩
 obtain ⟨gZ,hgZ⟩:∃ g,g=w.heap.size+1+1:=⟨_,rfl⟩
 obtain ⟨gT,hgT⟩:∃ g,g=w.heap.size+1+1+1:=⟨_,rfl⟩
 rw[←hgT] at rT ⊢
 rw[←hgZ] at rZ ⊢
 rw[←hgA] at rA ⊢
 rw[←hgM] at rM ⊢
 have HN:Hid (gM=w.heap.size∧gA=w.heap.size+1∧gZ=w.heap.size+2∧gT=w.heap.size+3):=by show _∧_;omega
 clear hgA hgZ hgT hgM
 refine wp_region_held (S:=fun w'=>Row w' gM #[π (some ⟨B.p,0,none⟩),π (some ⟨B.bt,0,none⟩),gu (B.v.map Bk.b)] 37∧Row w' gA (cpA c) 30) (by kernel_rfl) ?_
 change wpAnyH _ _ _ _ _ _ _ _ (World.drew _)
 refine wpAnyH_take (i:=1) (v:=.agg ([π (some ⟨B.p,0,none⟩),π (some ⟨B.bt,0,none⟩),gu (B.v.map Bk.b)]).toArray) rfl (by kernel_rfl) (by kernel_rfl) (by kernel_rfl) (fun _ _ _ h=>h) (yieldsIf_load_mid (by kernel_rfl) 37 _ rfl gM 0 rfl ([π (some ⟨B.p,0,none⟩),π (some ⟨B.bt,0,none⟩),gu (B.v.map Bk.b)]) _ (fun _ h=>jn h.1) Tryz.underlying37 rfl wv) ⟨rM.drew,rA.drew⟩ ?_
 show wpAnyH _ _ _ _ _ _ _ (Act.put _ (some 13) _) _
 simp only[Act.put,sA,sB,sC]
 refine wpAnyH_take (i:=2) (v:=.agg (cpL c).toArray) rfl (by kernel_rfl) (by kernel_rfl) (by kernel_rfl) (fun _ _ _ h=>h) (yieldsIf_load_mid (by kernel_rfl) 30 _ rfl gA 0 rfl (cpL c) _ (fun _ h=>dc h.2) Tryz.underlying30 rfl (dw c)) ⟨rM.drew,rA.drew⟩ ?_
 show wpAnyH _ _ _ _ _ _ _ (Act.put _ (some 14) _) _
 simp only[Act.put,sA,sB,sC]
 refine tkQ 3 (v:=?_) rfl (by kernel_rfl) (fun _ _ _ h=>h) (fun w hS=>?_) ⟨rM.drew,rA.drew⟩ ?_
 rotate_left
 ·go_simp
  try with_reducible rfl
 show wpAnyH _ _ _ _ _ _ _ (Act.put _ (some 15) _) _
 simp only[Act.put,sA,sB,sC]
 refine tkQ 4 (v:=?_) rfl (by kernel_rfl) (fun _ _ _ h=>h) (fun w hS=>?_) ⟨rM.drew,rA.drew⟩ ?_
 rotate_left
 ·go_simp
  try with_reducible rfl
 show wpAnyH _ _ _ _ _ _ _ (Act.put _ (some 16) _) _
 simp only[Act.put,sA,sB,sC]
 refine tkQ 5 (v:=?_) rfl (by kernel_rfl) (fun _ _ _ h=>h) (fun w hS=>?_) ⟨rM.drew,rA.drew⟩ ?_
 rotate_left
 ·go_simp
  try with_reducible rfl
 show wpAnyH _ _ _ _ _ _ _ (Act.put _ (some 17) _) _
 simp only[Act.put,sA,sB,sC]
 refine wpAnyH_all (rs:=[0]) (by kernel_rfl) (by simp) ?_
 intro i hi
 obtain rfl:i=0:=by simpa using hi
 clear hi
 refine ck rfl (by kernel_rfl) ?_
 go_simp
 refine(ops_any v0.drew v0.heap.size rfl).mono ?_
 rintro e v1 ⟨rfl,g1,hO⟩
 replace g1:=ks g1
 replace rM:=rM.keep g1 (fun h=>h)
 replace rA:=rA.keep g1 (fun h=>h)
 replace rZ:=rZ.keep g1 (fun h=>h)
 replace rT:=rT.keep g1 (fun h=>h)
 replace f0:=f0.trans g1
 clear g1
 refine ⟨⟨rM,rA⟩,?_⟩
 refine wpAnyH_all (rs:=[6]) (by kernel_rfl) (by simp) ?_
 intro i hi
 obtain rfl:i=6:=by simpa using hi
 clear hi
 refine ck rfl (by kernel_rfl) ?_
 go_simp
 refine(step_any v1 v0.heap.size B nf M c hok vm se ix hO (hM.keep0 f0) hm hn (fun k hk=>Or.inl (by have:=HB.out k hk;have:=hsz.out;omega))).mono ?_
 rintro e v2 ⟨rfl,g2,hM2,hok2⟩
 have ns:∀ k,(k=gM∨k=gA∨k=gZ∨k=gT)→¬ B.s k:=fun k hk e=>by have:=HB.out k (Or.inl e);have:=HN.out;omega
 replace rM:=rM.keep g2 (ns _ (Or.inl rfl))
 replace rA:=rA.keep g2 (ns _ (Or.inr (Or.inl rfl)))
 replace rZ:=rZ.keep g2 (ns _ (Or.inr (Or.inr (Or.inl rfl))))
 replace rT:=rT.keep g2 (ns _ (Or.inr (Or.inr (Or.inr rfl))))
 have f1:Fr B.s w v2:=(f0.mono (fun _ _ h=>h.elim)).trans g2
 rw[hR] at hM2 hok2 ⊢
 clear g2 f0 hO hR
 obtain ⟨M',c',T⟩:=R
 replace hM2:IsMc v2 B nf M':=hM2
 replace hok2:c'.Ok:=hok2
 refine ⟨⟨rM,rA⟩,?_⟩
 show wpAnyH _ _ _ _ _ _ _ _ _
 refine tkQ 7 (v:=?_) rfl (by kernel_rfl) (fun _ _ _ h=>h) (fun w hS=>?_) ⟨rM,rA⟩ ?_
 rotate_left
 ·go_simp
  try with_reducible rfl
 show wpAnyH _ _ _ _ _ _ _ (Act.put _ (some 19) _) _
 simp only[Act.put,sA,sB,sC]
 refine tkQ 8 (v:=?_) rfl (by kernel_rfl) (fun _ _ _ h=>h) (fun w hS=>?_) ⟨rM,rA⟩ ?_
 rotate_left
 ·go_simp
  try with_reducible rfl
 show wpAnyH _ _ _ _ _ _ _ (Act.put _ (some 20) _) _
 simp only[Act.put,sA,sB,sC]
 have n1:¬ at' gZ gA:=fun e=>by have e':gA=gZ:=e;have:=HN.out;omega
 have n1':¬ at' gZ gM:=fun e=>by have e':gM=gZ:=e;have:=HN.out;omega
 have n2:¬ at' gT gA:=fun e=>by have e':gA=gT:=e;have:=HN.out;omega
 have n2':¬ at' gT gM:=fun e=>by have e':gM=gT:=e;have:=HN.out;omega
 have n3:¬ at' gZ gT:=fun e=>by have e':gT=gZ:=e;have:=HN.out;omega
 have n4:¬ at' gT gZ:=fun e=>by have e':gZ=gT:=e;have:=HN.out;omega
 have rA1:=rA.keep (bb v2 gZ (cpA c')) n1
 have rM1:=rM.keep (bb v2 gZ (cpA c')) n1'
 have rT1:=rT.keep (bb v2 gZ (cpA c')) n3
 have rZ1:Row (v2.setRow gZ (cpA c')) gZ (cpA c') 30:=rZ.setRow
 have rA3:=rA1.keep (bb _ gT (trL T)) n2
 have rM3:=rM1.keep (bb _ gT (trL T)) n2'
 have rT3:Row ((v2.setRow gZ (cpA c')).setRow gT (trL T)) gT (trL T) 52:=rT1.setRow
 have rZ3:=rZ1.keep (bb _ gT (trL T)) n4
 have lz:w.heap.size≤gZ∧w.heap.size≤gT:=by have:=HN.out;omega
 have f6:=bp (bp f1 (g:=gZ) lz.1 (cpA c')) (g:=gT) lz.2 (trL T)
 have nn:∀ k,(k=gZ∨k=gT)→(∀ j,(B.s j∨j=B.p)→¬ at' k j):=fun k hk j hj e=>by have e':j=k:=e;have:=HB.out j hj;have:=HN.out;omega
 have M6:=ja hM2 (bb v2 gZ (cpA c')) (nn gZ (Or.inl rfl))
 have M7:=ja M6 (bb _ gT (trL T)) (nn gT (Or.inr rfl))
 refine wpAnyH_all (rs:=[9]) (by kernel_rfl) (by simp) ?_
 intro i hi
 obtain rfl:i=9:=by simpa using hi
 clear hi
 refine ck rfl (by kernel_rfl) ?_
 refine wp_store_row 30 _ _ rfl gZ (cpA c') rfl rfl 30 (cpA zc) rZ (bk c') rfl (bw c') ?_
 refine ⟨⟨rM1,rA1⟩,?_⟩
 show wpAnyH _ _ _ _ _ _ _ _ _
 refine wpAnyH_all (rs:=[10]) (by kernel_rfl) (by simp) ?_
 intro i hi
 obtain rfl:i=10:=by simpa using hi
 clear hi
 refine ck rfl (by kernel_rfl) ?_
 refine wp_store_row 52 _ _ rfl gT (trL T) rfl rfl 52 #[U κ 0,U κ 0,U κ 0,U κ 0,U κ 0,U κ 0,β false,U κ 0] rT1 bn rfl (jr T) ?_
 refine ⟨⟨rM3,rA3⟩,?_⟩
 show wpAnyH _ _ _ _ _ _ _ _ _
 refine wpAnyH_done (by kernel_rfl) ?_ _
 go_wp2_with fail
 refine bodyPost_ret (d8 rfl rfl rfl rZ3 (bj _) rT3 rfl) rfl ?_
 first | exact ⟨rfl,f6,M7,hok2⟩ | exact ⟨rfl,f6,M7⟩
theorem exec_zero (nf:Nat) (M:Mc) (X:Wk) (h:(ji nf M X).2.2.ca=0):(ji nf M X).2.2=_root_.Go.Proofs.YtibhbjbpodlpiaaGreat.t0:=by
 unfold ji at h ⊢
 split at h
 all_goals first
  | rfl
  | exact dT_zero (by decide) h
  | (exact absurd h (show ¬((5:Int)=0) by decide))
  | (exact absurd h (show ¬((6:Int)=0) by decide))
  | skip
 ·change (rdT X).ca=0 at h
  show rdT X=_
  unfold rdT at h ⊢
  split at h
  ·exact absurd h (show ¬((7:Int)=0) by decide)
  ·rw[if_neg (by assumption)]
 ·change (wrT X).ca=0 at h
  show wrT X=_
  unfold wrT at h ⊢
  split at h
  ·exact absurd h (show ¬((7:Int)=0) by decide)
  ·rw[if_neg (by assumption)]
 ·change (wfT M X).ca=0 at h
  show wfT M X=_
  unfold wfT at h ⊢
  split at h
  ·split at h
   ·rw[if_pos (by assumption)]
   ·exact absurd h (show ¬((9:Int)=0) by decide)
  ·exact absurd h (show ¬((9:Int)=0) by decide)
 ·change (eoT M.S X).ca=0 at h
  show eoT M.S X=_
  unfold eoT at h ⊢
  split at h
  ·exact absurd h (show ¬((10:Int)=0) by decide)
  ·rw[if_neg (by assumption)]
theorem do_zero (nf:Nat) (M:Mc) (X:Wk) (h:(doR nf M X).2.2.ca=0):(doR nf M X).2.2=_root_.Go.Proofs.YtibhbjbpodlpiaaGreat.t0:=by
 unfold doR at h ⊢
 split at h
 ·exact absurd h (show ¬((1:Int)=0) by decide)
 ·rw[if_neg (by assumption)]
  split at h
  ·exact absurd h (show ¬((8:Int)=0) by decide)
  ·rw[if_neg (by assumption)]
   split at h
   ·exact absurd h (show ¬((8:Int)=0) by decide)
   ·rw[if_neg (by assumption)]
    exact exec_zero nf _ _ h
theorem step_zero (nf:Nat) (M:Mc) (c:Cp) (vm se ix:Int) (h:(dx nf M c vm se ix).2.2.ca=0):(dx nf M c vm se ix).2.2=_root_.Go.Proofs.YtibhbjbpodlpiaaGreat.t0:=by
 unfold dx at h ⊢
 split at h
 ·exact absurd h (show ¬((4:Int)=0) by decide)
 ·rw[if_neg (by assumption)]
  exact do_zero nf M _ h
def stepI (nf:Nat) (M:Mc) (c:Cp) (vm se:Int):Mc×Cp×Tr:=dx nf M c vm se (c.pc / 4%8)
theorem wt {nf:Nat} {M:Mc} {c:Cp} (h:c.bad) (vm se ix:Int):dx nf M c vm se ix=stepI nf M c vm se:=by
 unfold stepI dx
 rw[if_pos h,if_pos h]
def mz (nf:Nat) (M:Mc) (c:Cp) (vm se:Int):Nat→Mc×Cp
 | 0=>(M,c)
 | k+1=>((stepI nf (mz nf M c vm se k).1 (mz nf M c vm se k).2 vm se).1,(stepI nf (mz nf M c vm se k).1 (mz nf M c vm se k).2 vm se).2.1)
def vv (nf:Nat) (M:Mc) (c:Cp) (vm se:Int) (k:Nat):Tr:=(stepI nf (mz nf M c vm se k).1 (mz nf M c vm se k).2 vm se).2.2
def Ran (nf:Nat) (M:Mc) (c:Cp) (vm se:Int) (many k:Nat) (M':Mc) (c':Cp) (T:Tr):Prop:=
 (∀ j,j<k→(vv nf M c vm se j).ca=0)∧((k=many∧M'=(mz nf M c vm se k).1∧c'=(mz nf M c vm se k).2∧T=_root_.Go.Proofs.YtibhbjbpodlpiaaGreat.t0)∨(k<many∧(vv nf M c vm se k).ca≠0∧M'=(mz nf M c vm se (k+1)).1∧c'=(mz nf M c vm se (k+1)).2∧T=vv nf M c vm se k))
theorem Ran.one {nf:Nat} {M:Mc} {c:Cp} {vm se:Int} {many k k':Nat} {M1 M2:Mc} {c1 c2:Cp} {T1 T2:Tr} (h:Ran nf M c vm se many k M1 c1 T1) (h':Ran nf M c vm se many k' M2 c2 T2):k=k'∧M1=M2∧c1=c2∧T1=T2:=by
 obtain ⟨a,b⟩:=h
 obtain ⟨a',b'⟩:=h'
 rcases b with ⟨rfl,rfl,rfl,rfl⟩ | ⟨hk,ht,rfl,rfl,rfl⟩ <;> rcases b' with ⟨rfl,rfl,rfl,rfl⟩ | ⟨hk',ht',rfl,rfl,rfl⟩
 ·exact ⟨rfl,rfl,rfl,rfl⟩
 ·exact absurd (a _ hk') ht'
 ·exact absurd (a' _ hk) ht
 ·rcases Nat.lt_trichotomy k k' with e | rfl | e
  ·exact absurd (a' _ e) ht
  ·exact ⟨rfl,rfl,rfl,rfl⟩
  ·exact absurd (a _ e) ht'
theorem few_seqN {nf:Nat} {M:Mc} {n:Nat} (h:M.few n) (c:Cp) (vm se:Int) (k:Nat):(mz nf M c vm se k).1.few (n+2*k):=by
 induction k with
 | zero=>exact h
 | succ k ih=>exact j0 (few_step ih nf _ vm se _) (by omega)
end Go.Proofs.YtibhbjbpodlpiaaGreat
