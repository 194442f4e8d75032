/-
  Contracts over the translation. No statement is proved here.
-/
import Derived.Test.YtibhbjbpodlpiaaGreatQJP
set_option maxRecDepth 100000
set_option maxHeartbeats 8000000
namespace Go.Proofs.YtibhbjbpodlpiaaGreat
open Go.RowKit
open Go.Value renaming int → U, bool → β, pointer → π, tuple → τ
open Go.IntKind renaming i64 → κ, u32 → μ
open Go.Obj renaming cells → ω
open Go.Ending renaming returned → ρ
open Go.Proofs.Tryz renaming prog → pQ
open List renaming setIfInBounds_toArray → sA, set_cons_succ → sB, set_cons_zero → sC
def wkA (X:Wk):Array Value:=#[π (some ⟨X.p,0,none⟩),π (some ⟨X.t,0,none⟩),gu X.v,U κ X.vm,U κ X.sd,U κ X.fi,U κ X.se,U κ X.ix,U κ X.pc,U μ ((X.wd:Nat):Int),U κ ((X.op:Nat):Int),U κ ((X.a:Nat):Int),U κ ((X.b:Nat):Int),U κ ((X.c:Nat):Int),U κ ((X.imm:Nat):Int)] ++ cpA X.z
theorem wkA_hi (X:Wk) (i:Nat):(wkA X)[15+i]? = (cpL X.z)[i]?:=by
 rw[wkA,Array.getElem?_append_right (by simp),←ly]
 congr 1
 simp
theorem mq (X:Wk) (i:Nat) (hi:i<15):(wkA X)[i]? = (#[π (some ⟨X.p,0,none⟩),π (some ⟨X.t,0,none⟩),gu X.v,U κ X.vm,U κ X.sd,U κ X.fi,U κ X.se,U κ X.ix,U κ X.pc,U μ ((X.wd:Nat):Int),U κ ((X.op:Nat):Int),U κ ((X.a:Nat):Int),U κ ((X.b:Nat):Int),U κ ((X.c:Nat):Int),U κ ((X.imm:Nat):Int)]:Array Value)[i]?:=by
 rw[wkA,Array.getElem?_append_left (by simpa using hi)]
theorem isW_mk {w:World} {bx:Nat} {X:Wk} (h:Row w bx (wkA X) 150):IsW w bx X:=
 ⟨_,h,by rw[wkA,Array.size_append,bj];rfl,(mq X 0 (by decide)).trans rfl,(mq X 1 (by decide)).trans rfl,(mq X 2 (by decide)).trans rfl,(mq X 3 (by decide)).trans rfl,(mq X 4 (by decide)).trans rfl,(mq X 5 (by decide)).trans rfl,(mq X 6 (by decide)).trans rfl,(mq X 7 (by decide)).trans rfl,(mq X 8 (by decide)).trans rfl,(mq X 9 (by decide)).trans rfl,(mq X 10 (by decide)).trans rfl,(mq X 11 (by decide)).trans rfl,(mq X 12 (by decide)).trans rfl,(mq X 13 (by decide)).trans rfl,(mq X 14 (by decide)).trans rfl,fun i hi=>by rw[wkA_hi];exact cpL_r _ hi,by rw[show(31:Nat)=15+16 by rfl,wkA_hi];exact vq _,fun i hi=>by rw[show 32+i=15+(17+i) by omega,wkA_hi];exact yo _ hi⟩
def wk0 (B:Bm) (c:Cp) (vm se ix:Int):Wk:=⟨B.p,B.bt,B.v.map Bk.b,vm,spA B.v.isSome c,spF B.v.isSome c,se,ix,c.pc,0,0,0,0,0,0,c⟩
def wk1 (B:Bm) (c:Cp) (vm se ix:Int):Wk:={ wk0 B c vm se ix with z:=c.setP ((c.pc+4)%65536) }
def stC (c:Cp) (R:Mc×Wk×Tr):Cp:=if R.2.2.ca=0∨R.2.2.ca=10 then R.2.1.z else c
theorem jn {w:World} {g:Nat} {A:Array Value} {t:TypeId} (h:Row w g A t):w.rangeAt g 0 A.toList:=fun j v hv=>by rw[Nat.zero_add,h.cell];simpa using hv
theorem wv:(Tryz.prog.info? 37).map (·.size)=some 3:=by kernel_rfl
theorem jr (t:Tr):(trL t).all (·.oneCell')=true:=by simp[trL,Value.oneCell']
theorem IsMc.ltp {w:World} {B:Bm} {nf:Nat} {M:Mc} (h:IsMc w B nf M) (k:Nat) (hk:B.s k∨k=B.p):k<w.heap.size:=by
 rcases hk with hk | rfl
 ·exact h.lts k hk
 ·exact h.ram.head.lt
theorem wp_boxA {P:Program} {o:Oper} {a:Act} {w:World} {K:Act→World→Prop} {Q:Exit→Act→World→Prop} {t:TypeId} {x:Operand} {A:Array Value} (ho:o.op=.box t x) (hx:a.eval x=.agg A) (h:K (a.put o.dst (π (some ⟨w.heap.size,0,none⟩))) (w.alloc (.cells A t))):o.wp P a w K Q:=by
 unfold Oper.wp execOp
 simp only[ho,hx]
 go_simp
 exact h
theorem build_wk (B:Bm) (c:Cp) (vm se ix:Int) (a:Act) (o:Oper) (w:World) (ho:o.op=.build 150 #[(0,.tmp 34),(1,.tmp 39),(2,.tmp 40),(3,.tmp 42),(6,.tmp 43)])
  (h34:a.eval (.tmp 34)=.agg #[π (some ⟨B.p,0,none⟩),π (some ⟨B.bt,0,none⟩),gu (B.v.map Bk.b)]) (h39:a.eval (.tmp 39)=.agg #[U κ vm,U κ (spA B.v.isSome c),U κ (spF B.v.isSome c),U κ se]) (h40:a.eval (.tmp 40)=U κ ix) (h42:a.eval (.tmp 42)=U κ c.pc) (h43:a.eval (.tmp 43)=.agg (cpA c)) :
  (execOp a.eval o).run pQ w=.ok (.value (.agg (wkA (wk0 B c vm se ix)))) w:=by
 have hb:Tryz.prog.built 150 [(0,.agg #[π (some ⟨B.p,0,none⟩),π (some ⟨B.bt,0,none⟩),gu (B.v.map Bk.b)]),(1,.agg #[U κ vm,U κ (spA B.v.isSome c),U κ (spF B.v.isSome c),U κ se]),(2,U κ ix),(3,U κ c.pc),(6,.agg (cpA c))]=some (wkA (wk0 B c vm se ix)):=by kernel_rfl
 have e:(#[(0,Operand.tmp 34),(1,Operand.tmp 39),(2,Operand.tmp 40),(3,Operand.tmp 42),(6,Operand.tmp 43)].map fun x=>(x.1,a.eval x.2))=#[(0,.agg #[π (some ⟨B.p,0,none⟩),π (some ⟨B.bt,0,none⟩),gu (B.v.map Bk.b)]),(1,.agg #[U κ vm,U κ (spA B.v.isSome c),U κ (spF B.v.isSome c),U κ se]),(2,U κ ix),(3,U κ c.pc),(6,.agg (cpA c))]:=by simp[h34,h39,h40,h42,h43]
 unfold execOp
 simp only[ho,Sem.run_bind]
 rw[e,run_build w 150 _ _ hb]
 rfl
theorem step_ok (w:World) (N:Nat) (B:Bm) (nf:Nat) (M:Mc) (c:Cp) (hb:¬ c.bad) (hok:c.Ok) (vm se ix:Int) (hO:Ops w N) (hM:IsMc w B nf M) {n:Nat} (hm:M.few n) (hn:n+1<999990) (sep:∀ k,(B.s k∨k=B.p)→k<N∨N+30≤k) :
  Calls pQ 27 #[.slice (some ⟨N+29,0,none⟩) 26 26,.agg #[π (some ⟨B.p,0,none⟩),π (some ⟨B.bt,0,none⟩),gu (B.v.map Bk.b)],.agg (cpA c),U κ vm,U κ se,U κ ix] w fun e w'=>e=ρ (τ #[.agg (cpA (stC c (doR nf M (wk1 B c vm se ix)))),.agg (trL (doR nf M (wk1 B c vm se ix)).2.2)])∧Fr B.s w w'∧IsMc w' B nf (doR nf M (wk1 B c vm se ix)).1∧(stC c (doR nf M (wk1 B c vm se ix))).Ok:=by
 have hNw:N+30≤w.heap.size:=hO.lt
 obtain ⟨R,hR⟩:∃ R,doR nf M (wk1 B c vm se ix)=R:=⟨_,rfl⟩
 rw[hR]
 have hz:∀ w,Sem.run pQ (zeroValue 30) w=.ok (.agg (cpA zc)) w:=my
 obtain ⟨v0,hv0⟩:∃ v0,v0=(((w.alloc (ω #[π (some ⟨B.p,0,none⟩),π (some ⟨B.bt,0,none⟩),gu (B.v.map Bk.b)] 37)).alloc (ω (cpA c) 30)).alloc (ω (cpA zc) 30)).alloc (ω #[U κ 0,U κ 0,U κ 0,U κ 0,U κ 0,U κ 0,β false,U κ 0] 52):=⟨_,rfl⟩
 have f0:Fr bg w v0:=by rw[hv0];exact((((Fr.refl bg w).alloc _).alloc _).alloc _).alloc _
 have rM:Row v0 w.heap.size #[π (some ⟨B.p,0,none⟩),π (some ⟨B.bt,0,none⟩),gu (B.v.map Bk.b)] 37:=by rw[hv0];exact(((ba _ _ _).alloc _).alloc _).alloc _
 have rA:Row v0 (w.heap.size+1) (cpA c) 30:=by rw[hv0];exact((dq (by simp)).alloc _).alloc _
 have rZ:Row v0 (w.heap.size+1+1) (cpA zc) 30:=by rw[hv0];exact(dq (by simp)).alloc _
 have rT:Row v0 (w.heap.size+1+1+1) #[U κ 0,U κ 0,U κ 0,U κ 0,U κ 0,U κ 0,β false,U κ 0] 52:=by rw[hv0];exact dq (by simp)
 have hsz:Hid (v0.heap.size=w.heap.size+4):=by show _=_;rw[hv0];simp
 go_enter Tryz.func27,Tryz.ntmps27
 go_upto_region 1 with fail
 rw[←hv0]
 clear hv0 hz
 obtain ⟨gM,hgM⟩:∃ g,g=w.heap.size:=⟨_,rfl⟩
 obtain ⟨gA,hgA⟩:∃ g,g=w.heap.size+1:=⟨_,rfl⟩
 obtain ⟨gZ,hgZ⟩:∃ g,g=w.heap.size+1+1:=⟨_,rfl⟩
 obtain ⟨gT,hgT⟩:∃ g,g=w.heap.size+1+1+1:=⟨_,rfl⟩
 rw[←hgT] at rT ⊢
 rw[←hgZ] at rZ ⊢
 rw[←hgA] at rA ⊢
 rw[←hgM] at rM ⊢
 have HN:Hid (gM=w.heap.size∧gA=w.heap.size+1∧gZ=w.heap.size+2∧gT=w.heap.size+3):=by show _∧_;omega
 clear hgA hgZ hgT hgM
 have cp:=ym rA
 go_cut [29] from 16 to 28 (fun s wx=>s=β false∧wx=v0)
 case first =>
  have hc:¬ c.pc<0∧¬ 65535<c.pc∧c.pc%4=0:=by unfold Cp.bad at hb;omega
  have u1:decide (c.pc<0)=false:=decide_eq_false hc.1
  have u2:decide (65535<c.pc)=false:=decide_eq_false hc.2.1
  have u3:c.pc.tmod 4=c.pc%4:=Int.tmod_eq_emod_of_nonneg (by omega)
  have u4:(c.pc%4 != 0)=false:=by simp[hc.2.2]
  go_wp2_with fail
  go_meet
  exact ⟨rfl,rfl⟩
 case rest =>
  obtain ⟨rfl,hw⟩:=hcut
  have hw':=hw.symm
  subst hw'
  clear cp
  go_wp2_with fail
  refine wp_region_held (S:=fun w'=>Row w' gM #[π (some ⟨B.p,0,none⟩),π (some ⟨B.bt,0,none⟩),gu (B.v.map Bk.b)] 37∧Row w' gA (cpA c) 30) (by kernel_rfl) ?_
  change wpAnyH _ _ _ _ _ _ _ _ (World.drew _)
  refine wpAnyH_take (i:=0) (v:=.agg ([π (some ⟨B.p,0,none⟩),π (some ⟨B.bt,0,none⟩),gu (B.v.map Bk.b)]).toArray) rfl (by kernel_rfl) (by kernel_rfl) (by kernel_rfl) (fun _ _ _ h=>h) (yieldsIf_load_mid (by kernel_rfl) 37 _ rfl gM 0 rfl ([π (some ⟨B.p,0,none⟩),π (some ⟨B.bt,0,none⟩),gu (B.v.map Bk.b)]) _ (fun _ h=>jn h.1) Tryz.underlying37 rfl wv) ⟨rM.drew,rA.drew⟩ ?_
  show wpAnyH _ _ _ _ _ _ _ (Act.put _ (some 34) _) _
  simp only[Act.put,sA,sB,sC]
  refine wpAnyH_take (i:=1) (v:=.agg ([π (some ⟨B.p,0,none⟩),π (some ⟨B.bt,0,none⟩),gu (B.v.map Bk.b)]).toArray) rfl (by kernel_rfl) (by kernel_rfl) (by kernel_rfl) (fun _ _ _ h=>h) (yieldsIf_load_mid (by kernel_rfl) 37 _ rfl gM 0 rfl ([π (some ⟨B.p,0,none⟩),π (some ⟨B.bt,0,none⟩),gu (B.v.map Bk.b)]) _ (fun _ h=>jn h.1) Tryz.underlying37 rfl wv) ⟨rM.drew,rA.drew⟩ ?_
  show wpAnyH _ _ _ _ _ _ _ (Act.put _ (some 35) _) _
  simp only[Act.put,sA,sB,sC]
  refine wpAnyH_take (i:=2) (v:=.agg (cpL c).toArray) rfl (by kernel_rfl) (by kernel_rfl) (by kernel_rfl) (fun _ _ _ h=>h) (yieldsIf_load_mid (by kernel_rfl) 30 _ rfl gA 0 rfl (cpL c) _ (fun _ h=>dc h.2) Tryz.underlying30 rfl (dw c)) ⟨rM.drew,rA.drew⟩ ?_
  show wpAnyH _ _ _ _ _ _ _ (Act.put _ (some 36) _) _
  simp only[Act.put,sA,sB,sC]
  refine tkQ 3 (v:=?_) rfl (by kernel_rfl) (fun _ _ _ h=>h) (fun w hS=>?_) ⟨rM.drew,rA.drew⟩ ?_
  rotate_left
  ·go_simp
   try with_reducible rfl
  show wpAnyH _ _ _ _ _ _ _ (Act.put _ (some 37) _) _
  simp only[Act.put,sA,sB,sC]
  refine tkQ 4 (v:=?_) rfl (by kernel_rfl) (fun _ _ _ h=>h) (fun w hS=>?_) ⟨rM.drew,rA.drew⟩ ?_
  rotate_left
  ·go_simp
   try with_reducible rfl
  show wpAnyH _ _ _ _ _ _ _ (Act.put _ (some 38) _) _
  simp only[Act.put,sA,sB,sC]
  refine tkQ 6 (v:=?_) rfl (by kernel_rfl) (fun _ _ _ h=>h) (fun w hS=>?_) ⟨rM.drew,rA.drew⟩ ?_
  rotate_left
  ·go_simp
   try with_reducible rfl
  show wpAnyH _ _ _ _ _ _ _ (Act.put _ (some 40) _) _
  simp only[Act.put,sA,sB,sC]
  refine tkQ 7 (v:=?_) rfl (by kernel_rfl) (fun _ _ _ h=>h) (fun w hS=>?_) ⟨rM.drew,rA.drew⟩ ?_
  rotate_left
  ·go_simp
   try with_reducible rfl
  show wpAnyH _ _ _ _ _ _ _ (Act.put _ (some 41) _) _
  simp only[Act.put,sA,sB,sC]
  refine tkQ 8 (v:=?_) rfl (by kernel_rfl) (fun _ _ _ h=>h) (fun w hS=>?_) ⟨rM.drew,rA.drew⟩ ?_
  rotate_left
  ·have cp:=ym hS.2;go_simp
   try with_reducible rfl
  show wpAnyH _ _ _ _ _ _ _ (Act.put _ (some 42) _) _
  simp only[Act.put,sA,sB,sC]
  refine wpAnyH_take (i:=9) (v:=.agg (cpL c).toArray) rfl (by kernel_rfl) (by kernel_rfl) (by kernel_rfl) (fun _ _ _ h=>h) (yieldsIf_load_mid (by kernel_rfl) 30 _ rfl gA 0 rfl (cpL c) _ (fun _ h=>dc h.2) Tryz.underlying30 rfl (dw c)) ⟨rM.drew,rA.drew⟩ ?_
  show wpAnyH _ _ _ _ _ _ _ (Act.put _ (some 43) _) _
  simp only[Act.put,sA,sB,sC]
  refine wpAnyH_all (rs:=[5]) (by kernel_rfl) (by simp) ?_
  intro i hi
  obtain rfl:i=5:=by simpa using hi
  clear hi
  refine ck rfl (by kernel_rfl) ?_
  go_simp
  refine(space_any v0.drew B.p B.bt (B.v.map Bk.b) c hok vm se).mono ?_
  rintro e v1 ⟨rfl,f1⟩
  replace f1:=ks f1
  replace rM:=rM.keep f1 (fun h=>h)
  replace rA:=rA.keep f1 (fun h=>h)
  replace rZ:=rZ.keep f1 (fun h=>h)
  replace rT:=rT.keep f1 (fun h=>h)
  replace f0:=f0.trans f1
  have hv:(Option.map Bk.b B.v).isSome=B.v.isSome:=by cases B.v <;> rfl
  rw[hv]
  have hsz1:Hid (w.heap.size+4≤v1.heap.size):=(show _≤_ by have:=hsz.out;have:=f1.size;omega)
  clear f1 hsz hv
  refine ⟨⟨rM,rA⟩,?_⟩
  refine wpAnyH_take (i:=10) (v:=.agg (wkA (wk0 B c vm se ix))) rfl (by kernel_rfl) (by kernel_rfl) (by kernel_rfl) (fun _ _ _ h=>h) (Or.inl ⟨by kernel_rfl,fun w hS=>build_wk B c vm se ix _ _ w rfl rfl rfl rfl rfl rfl⟩) ⟨rM,rA⟩ ?_
  show wpAnyH _ _ _ _ _ _ _ (Act.put _ (some 44) _) _
  simp only[Act.put,sA,sB,sC]
  refine wpAnyH_all (rs:=[11]) (by kernel_rfl) (by simp) ?_
  intro i hi
  obtain rfl:i=11:=by simpa using hi
  clear hi
  refine ck rfl (by kernel_rfl) ?_
  refine wp_boxA rfl rfl ?_
  refine ⟨⟨rM.alloc _,rA.alloc _⟩,?_⟩
  show wpAnyH _ _ _ _ _ _ _ (Act.put _ (some 45) _) _
  simp only[Act.put,sA,sB,sC]
  refine tkQ 12 (v:=?_) rfl (by kernel_rfl) (fun _ _ _ h=>h) (fun w hS=>?_) ⟨rM.alloc _,rA.alloc _⟩ ?_
  rotate_left
  ·go_simp
   try with_reducible rfl
  show wpAnyH _ _ _ _ _ _ _ (Act.put _ (some 14) _) _
  simp only[Act.put,sA,sB,sC]
  refine wpAnyH_done (by kernel_rfl) ?_ _
  have rX:=ba v1 (wkA (wk0 B c vm se ix)) 150
  have q1:=(Fr.refl bg v1).alloc (ω (wkA (wk0 B c vm se ix)) 150)
  obtain ⟨v2,hv2⟩:∃ v2,v2=v1.alloc (ω (wkA (wk0 B c vm se ix)) 150):=⟨_,rfl⟩
  rw[←hv2] at rX q1 ⊢
  clear hv2
  obtain ⟨bx,hbx⟩:∃ bx,bx=v1.heap.size:=⟨_,rfl⟩
  rw[←hbx] at rX hsz1 ⊢
  clear hbx
  replace rA:=rA.keep q1 (fun h=>h)
  replace rZ:=rZ.keep q1 (fun h=>h)
  replace rT:=rT.keep q1 (fun h=>h)
  replace f0:=f0.trans q1
  clear q1 rM
  have HB:Hid (∀ k,(B.s k∨k=B.p)→k<w.heap.size):=hM.ltp
  have J0:Jb v2 B nf bx M (wk0 B c vm se ix):=
   {m:=hM.keep0 f0,x:=isW_mk rX,p:=rfl,t:=rfl,v:=rfl
    f1:=fun e=>by have:=HB.out B.p (Or.inr rfl);have:=hsz1.out;omega
    f2:=fun e=>by have:=HB.out B.bf (Or.inl (Or.inl rfl));have:=hsz1.out;omega
    f3:=fun e=>by have:=HB.out B.bt (Or.inl (Or.inr (Or.inl rfl)));have:=hsz1.out;omega
    f4:=fun e=>by have:=HB.out bx (Or.inl (Or.inr (Or.inr e)));have:=hsz1.out;omega
    ok:=hok,a:=by show 0<16;omega,b:=by show 0<16;omega,c:=by show 0<16;omega,i:=by show 0<65536;omega,wd:=by show 0<4294967296;omega
    pc:=by show 0≤c.pc∧c.pc≤65535;unfold Cp.bad at hb;omega }
  have hpc:0≤c.pc∧c.pc≤65535:=J0.pc
  have hbh:=behind_any v2 bx (wk0 B c vm se ix) J0.x J0.pc
  replace hbh:Calls pQ 56 #[π (some ⟨bx,0,none⟩)] v2 fun e w'=>e=ρ (U κ ((c.pc+4)%65536))∧w'=v2:=hbh
  have HO:Hid (Ops v2 N):=hO.keep f0 (fun _ _ _ h=>h)
  clear rX hO
  obtain ⟨u,cp⟩:=J0.x.some_cell (i:=31) (by omega)
  have z:=J0.x.frozen 31
  have HJ:Hid (Jb v2 B nf bx M (wk0 B c vm se ix)):=J0
  clear J0 hb hpc
  go_wp2_with fail
  refine hbh.mono ?_
  rintro e v ⟨rfl,he⟩
  have he':=he.symm
  subst he'
  clear hbh
  go_upto_region 5 with fail
  clear cp z
  have q2:=cy v2 bx 31 (U κ ((c.pc+4)%65536)) (Fr.refl _ v2)
  have J1:Jb (v2.setCell ⟨bx,31,none⟩ (U κ ((c.pc+4)%65536))) B nf bx M (wk1 B c vm se ix):=HJ.out.turn q2 (HJ.out.x.setP _) (hok.setP _)
  have ns:∀ k,(k=gA∨k=gZ∨k=gT)→¬ B.x bx k:=fun k hk e=>by
   have:=HN.out
   have:=hsz1.out
   rcases e with e | e
   ·have:=HB.out k (Or.inl e);omega
   ·omega
  have nx:∀ k,(k=gA∨k=gZ∨k=gT)→¬ at' bx k:=fun k hk e=>ns k hk (Or.inr e)
  replace rA:=rA.keep q2 (nx _ (Or.inl rfl))
  replace rZ:=rZ.keep q2 (nx _ (Or.inr (Or.inl rfl)))
  replace rT:=rT.keep q2 (nx _ (Or.inr (Or.inr rfl)))
  have f1:Fr B.s w (v2.setCell ⟨bx,31,none⟩ (U κ ((c.pc+4)%65536))):=(f0.mono (fun _ _ h=>h.elim)).newerS q2 (by have:=hsz1.out;omega)
  have sepx:∀ k,B.y bx k→k<N∨N+30≤k:=fun k hk=>by
   rcases hk with(hk | hk) | hk
   ·exact sep k (Or.inl hk)
   ·have h4:=HO.out.lt;have h5:=HJ.out.x.lt;have h6:=hsz1.out;right;have:N+30≤w.heap.size:=hNw;omega
   ·exact sep k (Or.inr hk)
  have hD:=do_any _ N B nf bx M (wk1 B c vm se ix) (HO.out.keep q2 (fun k h1 h2 e=>by have e':k=bx:=e;have:=hsz1.out;omega)) J1 hm hn sepx
  rw[hR] at hD
  clear hR f0 HJ J1 HO
  obtain ⟨v3,hv3⟩:∃ v3,v3=v2.setCell ⟨bx,31,none⟩ (U κ ((c.pc+4)%65536)):=⟨_,rfl⟩
  rw[←hv3] at rA rZ rT f1 hD ⊢
  clear hv3 q2
  obtain ⟨M',X',T⟩:=R
  go_wp2_with fail
  refine hD.mono ?_
  rintro e v4 ⟨rfl,g4,J4⟩
  clear hD
  unfold trL
  have f5:Fr B.s w v4:=⟨g4.os.trans f1.os,g4.tape.trans f1.tape,g4.output.trans f1.output,Nat.le_trans f1.size g4.size,fun k hk hn=>by
   rw[g4.block k (Nat.lt_of_lt_of_le hk f1.size) (fun e=>by rcases e with e | e;exact hn e;have:=hsz1.out;omega)];exact f1.block k hk hn⟩
  replace rA:=(rA.keep g4 (ns _ (Or.inl rfl))).alloc (ω #[U κ T.ca,U κ T.nu,U κ T.ad,U κ T.f.k,U κ T.f.s,U κ T.f.l,β T.f.wk,U κ T.f.p] 52)
  replace rZ:=(rZ.keep g4 (ns _ (Or.inr (Or.inl rfl)))).alloc (ω #[U κ T.ca,U κ T.nu,U κ T.ad,U κ T.f.k,U κ T.f.s,U κ T.f.l,β T.f.wk,U κ T.f.p] 52)
  replace rT:=(rT.keep g4 (ns _ (Or.inr (Or.inr rfl)))).alloc (ω #[U κ T.ca,U κ T.nu,U κ T.ad,U κ T.f.k,U κ T.f.s,U κ T.f.l,β T.f.wk,U κ T.f.p] 52)
  have r5:=ba v4 #[U κ T.ca,U κ T.nu,U κ T.ad,U κ T.f.k,U κ T.f.s,U κ T.f.l,β T.f.wk,U κ T.f.p] 52
  replace f5:=f5.alloc (ω #[U κ T.ca,U κ T.nu,U κ T.ad,U κ T.f.k,U κ T.f.s,U κ T.f.l,β T.f.wk,U κ T.f.p] 52)
  have J5:=J4.alloc (ω #[U κ T.ca,U κ T.nu,U κ T.ad,U κ T.f.k,U κ T.f.s,U κ T.f.l,β T.f.wk,U κ T.f.p] 52)
  have h45:Hid (w.heap.size+4≤v4.heap.size):=(show _≤_ by have:=g4.size;have:=f1.size;have:=J4.x.lt;have:=hsz1.out;omega)
  clear g4 f1 J4
  go_upto_region 6 with fail
  obtain ⟨v0',hv5⟩:∃ v5,v5=v4.alloc (ω #[U κ T.ca,U κ T.nu,U κ T.ad,U κ T.f.k,U κ T.f.s,U κ T.f.l,β T.f.wk,U κ T.f.p] 52):=⟨_,rfl⟩
  rw[←hv5] at rA rZ rT r5 f5 J5 ⊢
  clear hv5
  obtain ⟨g5,hg5⟩:∃ g,g=v4.heap.size:=⟨_,rfl⟩
  rw[←hg5] at r5 h45 ⊢
  clear hg5
  have d0:v0'.cell? ⟨g5,0,none⟩=some (U κ T.ca):=r5.cell 0
  have nA:∀ k,(k=gZ∨k=gT)→¬ at' k g5∧¬ at' k bx∧(∀ j,B.y bx j→j≠k):=fun k hk=>⟨fun e=>by have e':g5=k:=e;have:=HN.out;have:=h45.out;omega,fun e=>by have e':bx=k:=e;have:=HN.out;have:=hsz1.out;omega,fun j hj e=>by
   subst e
   have:=HN.out
   have:=hsz1.out
   rcases hj with(hj | hj) | hj
   ·have:=HB.out j (Or.inl hj);omega
   ·omega
   ·have:=HB.out j (Or.inr hj);omega⟩
  have n1:¬ at' gZ gA:=fun e=>by have e':gA=gZ:=e;have:=HN.out;omega
  have n2:¬ at' gT gA:=fun e=>by have e':gA=gT:=e;have:=HN.out;omega
  have n3:¬ at' gZ gT:=fun e=>by have e':gT=gZ:=e;have:=HN.out;omega
  have n4:¬ at' gT gZ:=fun e=>by have e':gZ=gT:=e;have:=HN.out;omega
  have lz:w.heap.size≤gZ∧w.heap.size≤gT:=by have:=HN.out;omega
  clear HN hsz1 h45 HB ns nx sepx sep
  by_cases hq:T.ca=0∨T.ca=10
  ·have hS:stC c (M',X',T)=X'.z:=if_pos hq
   have hsl:T.ca=0∨(T.ca≠0∧T.ca=10):=by omega
   clear hq
   have HS:Hid (stC c (M',X',T)=X'.z):=hS
   clear hS
   rcases hsl with h0 | ⟨h0,h10⟩
   ·have u1:(T.ca == 0)=true:=by simp[h0]
    clear h0
    go_wp2_with fail
    have rT1:=rT.keep (bb v0' gZ (cpA X'.z)) n3
    have rZ1:Row (v0'.setRow gZ (cpA X'.z)) gZ (cpA X'.z) 30:=rZ.setRow
    have rT3:Row ((v0'.setRow gZ (cpA X'.z)).setRow gT (trL T)) gT (trL T) 52:=rT1.setRow
    have rZ3:=rZ1.keep (bb _ gT (trL T)) n4
    have f6:=bp (bp f5 (g:=gZ) lz.1 (cpA X'.z)) (g:=gT) lz.2 (trL T)
    have J6:=J5.past (bb v0' gZ (cpA X'.z)) (nA gZ (Or.inl rfl)).2.2
    have J7:=J6.past (bb _ gT (trL T)) (nA gT (Or.inr rfl)).2.2
    have r6:=r5.keep (bb v0' gZ (cpA X'.z)) (nA gZ (Or.inl rfl)).1
    have r7:=r6.keep (bb _ gT (trL T)) (nA gT (Or.inr rfl)).1
    refine wp_region_held (S:=fun w'=>IsW w' bx X'∧Row w' g5 (trL T) 52) (by kernel_rfl) ?_
    change wpAnyH _ _ _ _ _ _ _ _ (World.drew _)
    refine tkQ 0 (v:=?_) rfl (by kernel_rfl) (fun _ _ _ h=>h) (fun w hS=>?_) ⟨J5.x.drew,r5.drew⟩ ?_
    rotate_left
    ·go_simp
     try with_reducible rfl
    show wpAnyH _ _ _ _ _ _ _ (Act.put _ (some 63) _) _
    simp only[Act.put,sA,sB,sC]
    refine tkQ 1 (v:=?_) rfl (by kernel_rfl) (fun _ _ _ h=>h) (fun w hS=>?_) ⟨J5.x.drew,r5.drew⟩ ?_
    rotate_left
    ·go_simp
     try with_reducible rfl
    show wpAnyH _ _ _ _ _ _ _ (Act.put _ (some 64) _) _
    simp only[Act.put,sA,sB,sC]
    refine tkQ 2 (v:=?_) rfl (by kernel_rfl) (fun _ _ _ h=>h) (fun w hS=>?_) ⟨J5.x.drew,r5.drew⟩ ?_
    rotate_left
    ·go_simp
     try with_reducible rfl
    show wpAnyH _ _ _ _ _ _ _ (Act.put _ (some 65) _) _
    simp only[Act.put,sA,sB,sC]
    refine wpAnyH_take (i:=3) (v:=.agg (cpL X'.z).toArray) rfl (by kernel_rfl) (by kernel_rfl) (by kernel_rfl) (fun _ _ _ h=>h) (yieldsIf_load_mid (by kernel_rfl) 30 _ rfl bx 15 rfl (cpL X'.z) _ (fun _ h=>h.1.range) Tryz.underlying30 rfl (dw X'.z)) ⟨J5.x.drew,r5.drew⟩ ?_
    show wpAnyH _ _ _ _ _ _ _ (Act.put _ (some 66) _) _
    simp only[Act.put,sA,sB,sC]
    refine wpAnyH_take (i:=4) (v:=.agg ((trL T).toList).toArray) rfl (by kernel_rfl) (by kernel_rfl) (by kernel_rfl) (fun _ _ _ h=>h) (yieldsIf_load_mid (by kernel_rfl) 52 _ rfl g5 0 rfl ((trL T).toList) _ (fun _ h=>jn h.2) Tryz.underlying52 rfl (bn:_=some 8)) ⟨J5.x.drew,r5.drew⟩ ?_
    show wpAnyH _ _ _ _ _ _ _ (Act.put _ (some 67) _) _
    simp only[Act.put,sA,sB,sC]
    refine wpAnyH_all (rs:=[5]) (by kernel_rfl) (by simp) ?_
    intro i hi
    obtain rfl:i=5:=by simpa using hi
    clear hi
    refine ck rfl (by kernel_rfl) ?_
    refine wp_store_row 30 _ _ rfl gZ (cpA X'.z) rfl rfl 30 (cpA zc) rZ.drew (bk X'.z) rfl (bw X'.z) ?_
    refine ⟨⟨J6.x.drew,r6.drew⟩,?_⟩
    show wpAnyH _ _ _ _ _ _ _ _ _
    refine wpAnyH_all (rs:=[6]) (by kernel_rfl) (by simp) ?_
    intro i hi
    obtain rfl:i=6:=by simpa using hi
    clear hi
    refine ck rfl (by kernel_rfl) ?_
    refine wp_store_row 52 _ _ rfl gT (trL T) rfl rfl 52 #[U κ 0,U κ 0,U κ 0,U κ 0,U κ 0,U κ 0,β false,U κ 0] rT1.drew bn rfl (jr T) ?_
    refine ⟨⟨J7.x.drew,r7.drew⟩,?_⟩
    show wpAnyH _ _ _ _ _ _ _ _ _
    refine wpAnyH_done (by kernel_rfl) ?_ _
    go_wp2_with fail
    refine bodyPost_ret (d8 rfl rfl rfl rZ3.drew (bj _) rT3.drew rfl) rfl ?_
    exact ⟨by rw[HS.out],f6.drew,J7.m.keep0 (Fr.refl bg _).drew,by rw[HS.out];first | exact J7.ok | exact hok⟩
   ·have u1:(T.ca == 0)=false:=by simp[h0]
    have u2:(T.ca == 10)=true:=by simp[h10]
    clear h0 h10
    go_wp2_with fail
    have rT1:=rT.keep (bb v0' gZ (cpA X'.z)) n3
    have rZ1:Row (v0'.setRow gZ (cpA X'.z)) gZ (cpA X'.z) 30:=rZ.setRow
    have rT3:Row ((v0'.setRow gZ (cpA X'.z)).setRow gT (trL T)) gT (trL T) 52:=rT1.setRow
    have rZ3:=rZ1.keep (bb _ gT (trL T)) n4
    have f6:=bp (bp f5 (g:=gZ) lz.1 (cpA X'.z)) (g:=gT) lz.2 (trL T)
    have J6:=J5.past (bb v0' gZ (cpA X'.z)) (nA gZ (Or.inl rfl)).2.2
    have J7:=J6.past (bb _ gT (trL T)) (nA gT (Or.inr rfl)).2.2
    have r6:=r5.keep (bb v0' gZ (cpA X'.z)) (nA gZ (Or.inl rfl)).1
    have r7:=r6.keep (bb _ gT (trL T)) (nA gT (Or.inr rfl)).1
    refine wp_region_held (S:=fun w'=>IsW w' bx X'∧Row w' g5 (trL T) 52) (by kernel_rfl) ?_
    change wpAnyH _ _ _ _ _ _ _ _ (World.drew _)
    refine tkQ 0 (v:=?_) rfl (by kernel_rfl) (fun _ _ _ h=>h) (fun w hS=>?_) ⟨J5.x.drew,r5.drew⟩ ?_
    rotate_left
    ·go_simp
     try with_reducible rfl
    show wpAnyH _ _ _ _ _ _ _ (Act.put _ (some 63) _) _
    simp only[Act.put,sA,sB,sC]
    refine tkQ 1 (v:=?_) rfl (by kernel_rfl) (fun _ _ _ h=>h) (fun w hS=>?_) ⟨J5.x.drew,r5.drew⟩ ?_
    rotate_left
    ·go_simp
     try with_reducible rfl
    show wpAnyH _ _ _ _ _ _ _ (Act.put _ (some 64) _) _
    simp only[Act.put,sA,sB,sC]
    refine tkQ 2 (v:=?_) rfl (by kernel_rfl) (fun _ _ _ h=>h) (fun w hS=>?_) ⟨J5.x.drew,r5.drew⟩ ?_
    rotate_left
    ·go_simp
     try with_reducible rfl
    show wpAnyH _ _ _ _ _ _ _ (Act.put _ (some 65) _) _
    simp only[Act.put,sA,sB,sC]
    refine wpAnyH_take (i:=3) (v:=.agg (cpL X'.z).toArray) rfl (by kernel_rfl) (by kernel_rfl) (by kernel_rfl) (fun _ _ _ h=>h) (yieldsIf_load_mid (by kernel_rfl) 30 _ rfl bx 15 rfl (cpL X'.z) _ (fun _ h=>h.1.range) Tryz.underlying30 rfl (dw X'.z)) ⟨J5.x.drew,r5.drew⟩ ?_
    show wpAnyH _ _ _ _ _ _ _ (Act.put _ (some 66) _) _
    simp only[Act.put,sA,sB,sC]
    refine wpAnyH_take (i:=4) (v:=.agg ((trL T).toList).toArray) rfl (by kernel_rfl) (by kernel_rfl) (by kernel_rfl) (fun _ _ _ h=>h) (yieldsIf_load_mid (by kernel_rfl) 52 _ rfl g5 0 rfl ((trL T).toList) _ (fun _ h=>jn h.2) Tryz.underlying52 rfl (bn:_=some 8)) ⟨J5.x.drew,r5.drew⟩ ?_
    show wpAnyH _ _ _ _ _ _ _ (Act.put _ (some 67) _) _
    simp only[Act.put,sA,sB,sC]
    refine wpAnyH_all (rs:=[5]) (by kernel_rfl) (by simp) ?_
    intro i hi
    obtain rfl:i=5:=by simpa using hi
    clear hi
    refine ck rfl (by kernel_rfl) ?_
    refine wp_store_row 30 _ _ rfl gZ (cpA X'.z) rfl rfl 30 (cpA zc) rZ.drew (bk X'.z) rfl (bw X'.z) ?_
    refine ⟨⟨J6.x.drew,r6.drew⟩,?_⟩
    show wpAnyH _ _ _ _ _ _ _ _ _
    refine wpAnyH_all (rs:=[6]) (by kernel_rfl) (by simp) ?_
    intro i hi
    obtain rfl:i=6:=by simpa using hi
    clear hi
    refine ck rfl (by kernel_rfl) ?_
    refine wp_store_row 52 _ _ rfl gT (trL T) rfl rfl 52 #[U κ 0,U κ 0,U κ 0,U κ 0,U κ 0,U κ 0,β false,U κ 0] rT1.drew bn rfl (jr T) ?_
    refine ⟨⟨J7.x.drew,r7.drew⟩,?_⟩
    show wpAnyH _ _ _ _ _ _ _ _ _
    refine wpAnyH_done (by kernel_rfl) ?_ _
    go_wp2_with fail
    refine bodyPost_ret (d8 rfl rfl rfl rZ3.drew (bj _) rT3.drew rfl) rfl ?_
    exact ⟨by rw[HS.out],f6.drew,J7.m.keep0 (Fr.refl bg _).drew,by rw[HS.out];first | exact J7.ok | exact hok⟩
  ·have HS:Hid (stC c (M',X',T)=c):=if_neg hq
   have u1:(T.ca == 0)=false:=by simp;omega
   have u2:(T.ca == 10)=false:=by simp;omega
   clear hq
   go_wp2_with fail
   have rA1:=rA.keep (bb v0' gZ (cpA c)) n1
   have rT1:=rT.keep (bb v0' gZ (cpA c)) n3
   have rZ1:Row (v0'.setRow gZ (cpA c)) gZ (cpA c) 30:=rZ.setRow
   have rA3:=rA1.keep (bb _ gT (trL T)) n2
   have rT3:Row ((v0'.setRow gZ (cpA c)).setRow gT (trL T)) gT (trL T) 52:=rT1.setRow
   have rZ3:=rZ1.keep (bb _ gT (trL T)) n4
   have f6:=bp (bp f5 (g:=gZ) lz.1 (cpA c)) (g:=gT) lz.2 (trL T)
   have J6:=J5.past (bb v0' gZ (cpA c)) (nA gZ (Or.inl rfl)).2.2
   have J7:=J6.past (bb _ gT (trL T)) (nA gT (Or.inr rfl)).2.2
   have r6:=r5.keep (bb v0' gZ (cpA c)) (nA gZ (Or.inl rfl)).1
   have r7:=r6.keep (bb _ gT (trL T)) (nA gT (Or.inr rfl)).1
   refine wp_region_held (S:=fun w'=>Row w' gA (cpA c) 30∧Row w' g5 (trL T) 52) (by kernel_rfl) ?_
   change wpAnyH _ _ _ _ _ _ _ _ (World.drew _)
   refine wpAnyH_take (i:=0) (v:=.agg (cpL c).toArray) rfl (by kernel_rfl) (by kernel_rfl) (by kernel_rfl) (fun _ _ _ h=>h) (yieldsIf_load_mid (by kernel_rfl) 30 _ rfl gA 0 rfl (cpL c) _ (fun _ h=>dc h.1) Tryz.underlying30 rfl (dw c)) ⟨rA.drew,r5.drew⟩ ?_
   show wpAnyH _ _ _ _ _ _ _ (Act.put _ (some 68) _) _
   simp only[Act.put,sA,sB,sC]
   refine wpAnyH_take (i:=1) (v:=.agg ((trL T).toList).toArray) rfl (by kernel_rfl) (by kernel_rfl) (by kernel_rfl) (fun _ _ _ h=>h) (yieldsIf_load_mid (by kernel_rfl) 52 _ rfl g5 0 rfl ((trL T).toList) _ (fun _ h=>jn h.2) Tryz.underlying52 rfl (bn:_=some 8)) ⟨rA.drew,r5.drew⟩ ?_
   show wpAnyH _ _ _ _ _ _ _ (Act.put _ (some 69) _) _
   simp only[Act.put,sA,sB,sC]
   refine wpAnyH_all (rs:=[2]) (by kernel_rfl) (by simp) ?_
   intro i hi
   obtain rfl:i=2:=by simpa using hi
   clear hi
   refine ck rfl (by kernel_rfl) ?_
   refine wp_store_row 30 _ _ rfl gZ (cpA c) rfl rfl 30 (cpA zc) rZ.drew (bk c) rfl (bw c) ?_
   refine ⟨⟨rA1.drew,r6.drew⟩,?_⟩
   show wpAnyH _ _ _ _ _ _ _ _ _
   refine wpAnyH_all (rs:=[3]) (by kernel_rfl) (by simp) ?_
   intro i hi
   obtain rfl:i=3:=by simpa using hi
   clear hi
   refine ck rfl (by kernel_rfl) ?_
   refine wp_store_row 52 _ _ rfl gT (trL T) rfl rfl 52 #[U κ 0,U κ 0,U κ 0,U κ 0,U κ 0,U κ 0,β false,U κ 0] rT1.drew bn rfl (jr T) ?_
   refine ⟨⟨rA3.drew,r7.drew⟩,?_⟩
   show wpAnyH _ _ _ _ _ _ _ _ _
   refine wpAnyH_done (by kernel_rfl) ?_ _
   go_wp2_with fail
   refine bodyPost_ret (d8 rfl rfl rfl rZ3.drew (bj _) rT3.drew rfl) rfl ?_
   exact ⟨by rw[HS.out],f6.drew,J7.m.keep0 (Fr.refl bg _).drew,by rw[HS.out];first | exact J7.ok | exact hok⟩
end Go.Proofs.YtibhbjbpodlpiaaGreat
