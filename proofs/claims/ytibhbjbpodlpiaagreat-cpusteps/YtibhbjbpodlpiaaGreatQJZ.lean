/-
  Contracts over the translation. No statement is proved here.
-/
import Derived.Test.YtibhbjbpodlpiaaGreatQJY
set_option maxRecDepth 100000
set_option maxHeartbeats 8000000
namespace Go.Proofs.YtibhbjbpodlpiaaGreat
open Go.RowKit
open Go.Value renaming int → U, bool → β, pointer → π, tuple → τ
open Go.IntKind renaming i64 → κ, u32 → μ
open Go.Obj renaming cells → ω
open Go.Ending renaming returned → ρ
open Go.Proofs.Tryz renaming prog → pQ
open List renaming setIfInBounds_toArray → sA, set_cons_succ → sB, set_cons_zero → sC
theorem pz {fn:Func} {p q u:Tmp} {tmps:Array Value} {g g':Nat} {A cs:Array Value} {w:World} (h:fn.results=#[.cell p 30,.cell q 52,.tmp u]) (hp:tmps.getD p undef=π (some ⟨g,0,none⟩)) (hq:tmps.getD q undef=π (some ⟨g',0,none⟩)) (hr:Row w g A 30) (hs:A.size=25) (hr':Row w g' cs 52) (hs':cs.size=8) :
  (results fn tmps).run pQ w=.ok (τ #[.agg A,.agg cs,tmps.getD u undef]) w:=by
 have hl:(loadVar 30 ⟨g,0,none⟩).run pQ w=.ok (.agg A) w:=by
  have:=run_loadVar_mid (P:=pQ) w g 0 30 A.toList _ (fun j v hv=>by rw[Nat.zero_add,hr.cell];simpa using hv) Tryz.underlying30 rfl (by rw[Array.length_toList,hs];exact kz)
  simpa using this
 have hl':=xv hr' hs'
 have hp':tmps[p]?.getD undef=π (some ⟨g,0,none⟩):=by simpa using hp
 have hq':tmps[q]?.getD undef=π (some ⟨g',0,none⟩):=by simpa using hq
 simp only[results,h]
 simp[Result.andThen,hp',hq',asAddr,hl,hl']
structure Rn (w wr:World) (B:Bm) (nf N gM gA gZ gT:Nat) (M:Mc) (c:Cp) (vm se:Int) (k:Nat):Prop where
 f:Fr B.s w wr
 rM:Row wr gM #[π (some ⟨B.p,0,none⟩),π (some ⟨B.bt,0,none⟩),gu (B.v.map Bk.b)] 37
 rA:Row wr gA (cpA (mz nf M c vm se k).2) 30
 rZ:Row wr gZ (cpA zc) 30
 rT:Row wr gT #[U κ 0,U κ 0,U κ 0,U κ 0,U κ 0,U κ 0,β false,U κ 0] 52
 m:IsMc wr B nf (mz nf M c vm se k).1
 o:Ops wr N
 t:∀ j,j<k→(vv nf M c vm se j).ca=0
 ok:(mz nf M c vm se k).2.Ok
 sz:N+30≤wr.heap.size
theorem Run_pos (w:World) (B:Bm) (nf:Nat) (M:Mc) (c:Cp) (hok:c.Ok) (vm se:Int) (mny:Int) (many:Nat) (hmy:(mny=(many:Int)∧many≤1000)∨(1000<mny∧many=1000)) (hM:IsMc w B nf M) {n0:Nat} (hm:M.few n0) (hn0:n0≤900000) :
  Calls pQ 8 #[.agg #[π (some ⟨B.p,0,none⟩),π (some ⟨B.bt,0,none⟩),gu (B.v.map Bk.b)],.agg (cpA c),U κ vm,U κ se,U κ mny] w fun e w'=>∃ k M' c' T,e=ρ (τ #[.agg (cpA c'),.agg (trL T),U κ (k:Nat)])∧Fr B.s w w'∧IsMc w' B nf M'∧Ran nf M c vm se many k M' c' T∧c'.Ok:=by
 have HB:Hid (∀ k,(B.s k∨k=B.p)→k<w.heap.size):=hM.ltp
 have hz:∀ w,Sem.run pQ (zeroValue 30) w=.ok (.agg (cpA zc)) w:=my
 obtain ⟨v0,hv0⟩:∃ v0,v0=(((w.alloc (ω #[π (some ⟨B.p,0,none⟩),π (some ⟨B.bt,0,none⟩),gu (B.v.map Bk.b)] 37)).alloc (ω (cpA c) 30)).alloc (ω (cpA zc) 30)).alloc (ω #[U κ 0,U κ 0,U κ 0,U κ 0,U κ 0,U κ 0,β false,U κ 0] 52):=⟨_,rfl⟩
 have f0:Fr bg w v0:=by rw[hv0];exact((((Fr.refl bg w).alloc _).alloc _).alloc _).alloc _
 have rM:Row v0 w.heap.size #[π (some ⟨B.p,0,none⟩),π (some ⟨B.bt,0,none⟩),gu (B.v.map Bk.b)] 37:=by rw[hv0];exact(((ba _ _ _).alloc _).alloc _).alloc _
 have rA:Row v0 (w.heap.size+1) (cpA c) 30:=by rw[hv0];exact((dq (by simp)).alloc _).alloc _
 have rZ:Row v0 (w.heap.size+1+1) (cpA zc) 30:=by rw[hv0];exact(dq (by simp)).alloc _
 have rT:Row v0 (w.heap.size+1+1+1) #[U κ 0,U κ 0,U κ 0,U κ 0,U κ 0,U κ 0,β false,U κ 0] 52:=by rw[hv0];exact dq (by simp)
 have hsz:Hid (v0.heap.size=w.heap.size+4):=by show _=_;rw[hv0];simp
 have HMY:Hid (many≤1000∧n0≤900000):=(show _∧_ by omega)
 have HMX:Hid ((mny=(many:Int)∧many≤1000)∨(1000<mny∧many=1000)):=hmy
 have H2:(decide ((1000:Int)<mny)=false∧¬ ((1000:Int)<mny))∨(decide ((1000:Int)<mny)=true∧(1000:Int)<mny):=by
  by_cases q:(1000:Int)<mny
  ·exact Or.inr ⟨decide_eq_true q,q⟩
  ·exact Or.inl ⟨decide_eq_false q,q⟩
 clear hmy hn0
 rcases H2 with ⟨u1000,v1000⟩ | ⟨u1000,v1000⟩
 all_goals
  go_enter Tryz.func8,Tryz.ntmps8
  go_upto_region 1 with fail
  rw[←hv0]
  clear hv0 hz
  obtain ⟨gM,hgM⟩:∃ g,g=w.heap.size:=⟨_,rfl⟩
  obtain ⟨gA,hgA⟩:∃ g,g=w.heap.size+1:=⟨_,rfl⟩
  obtain ⟨gZ,hgZ⟩:∃ g,g=w.heap.size+1+1:=⟨_,rfl⟩
  obtain ⟨gT,hgT⟩:∃ g,g=w.heap.size+1+1+1:=⟨_,rfl⟩
  rw[←hgT] at rT ⊢
  rw[←hgZ] at rZ ⊢
  rw[←hgA] at rA ⊢
  rw[←hgM] at rM ⊢
  have HN:Hid (gM=w.heap.size∧gA=w.heap.size+1∧gZ=w.heap.size+2∧gT=w.heap.size+3):=by show _∧_;omega
  clear hgA hgZ hgT hgM
  go_wp2_with fail
  refine(ops_any v0 v0.heap.size rfl).mono ?_
  rintro e v1 ⟨rfl,g1,hO⟩
  obtain ⟨N,hN⟩:∃ N,N=v0.heap.size:=⟨_,rfl⟩
  rw[←hN] at hO ⊢
  have HNN:Hid (N=w.heap.size+4):=by show _=_;rw[hN,hsz.out]
  have hR:Hid (Rn w v1 B nf N gM gA gZ gT M c vm se 0):=by
   have hlt:=hO.list.lt
   refine ⟨(f0.trans g1).mono (fun _ _ h=>h.elim),rM.keep g1 (fun h=>h),rA.keep g1 (fun h=>h),rZ.keep g1 (fun h=>h),rT.keep g1 (fun h=>h),(hM.keep0 f0).keep0 g1,hO,fun j hj=>absurd hj (Nat.not_lt_zero j),hok,by omega⟩
  clear hN f0 g1 rM rA rZ rT hO hsz hM hok
  go_wp2_with fail
  go_loopw [14,15] (fun i p wr=>∃ k:Nat,k≤many∧i=U κ (k:Int)∧Hid (Rn w wr B nf N gM gA gZ gT M c vm se k)) (fun i _ _=>many-(intOf i).toNat)
  case atStart=>exact ⟨0,Nat.zero_le _,rfl,hR⟩
  case round =>
   clear hR
   obtain ⟨k,hk,rfl,RR⟩:=hrel
   by_cases hlt:k<many
   ·have uk:decide ((k:Int)<mny)=true:=decide_eq_true (by have:=HMX.out;omega)
    have uk2:decide ((k:Int)<1000)=true:=decide_eq_true (by have:=HMY.out.1;omega)
    obtain ⟨cc0,cc1,cc2⟩:wr.cell? ⟨gM,0,none⟩=some (π (some ⟨B.p,0,none⟩))∧wr.cell? ⟨gM,1,none⟩=some (π (some ⟨B.bt,0,none⟩))∧wr.cell? ⟨gM,2,none⟩=some (gu (B.v.map Bk.b)):=⟨RR.out.rM.cell 0,RR.out.rM.cell 1,RR.out.rM.cell 2⟩
    go_upto_region 5 with fail
    clear cc0 cc1 cc2 uk uk2 u1000 v1000
    have rU:=ba wr #[U κ 0,U κ 0,U κ 0,U κ 0,U κ 0,U κ 0,β false,U κ 0] 52
    have fU:=(Fr.refl bg wr).alloc (ω #[U κ 0,U κ 0,U κ 0,U κ 0,U κ 0,U κ 0,β false,U κ 0] 52)
    obtain ⟨va,hva⟩:∃ va,va=wr.alloc (ω #[U κ 0,U κ 0,U κ 0,U κ 0,U κ 0,U κ 0,β false,U κ 0] 52):=⟨_,rfl⟩
    obtain ⟨gU,hgU⟩:∃ gU,gU=wr.heap.size:=⟨_,rfl⟩
    rw[←hva] at rU fU ⊢
    rw[←hgU] at rU ⊢
    have HU:Hid (N+30≤gU):=by show _≤_;rw[hgU];exact RR.out.sz
    clear hva hgU
    have f1:=RR.out.f.trans (fU.mono (fun _ _ h=>h.elim))
    have rM:=RR.out.rM.keep fU (fun h=>h)
    have rA:=RR.out.rA.keep fU (fun h=>h)
    have rZ:=RR.out.rZ.keep fU (fun h=>h)
    have rT:=RR.out.rT.keep fU (fun h=>h)
    have hM:=RR.out.m.keep0 fU
    have hO:=RR.out.o.keep fU (fun _ _ _ h=>h)
    have HF:Hid ((mz nf M c vm se k).1.few (n0+2*k)):=few_seqN hm c vm se k
    have HT:Hid (∀ j,j<k→(vv nf M c vm se j).ca=0):=RR.out.t
    obtain ⟨R,hR⟩:∃ R,stepI nf (mz nf M c vm se k).1 (mz nf M c vm se k).2 vm se=R:=⟨_,rfl⟩
    have HQ:Hid (mz nf M c vm se (k+1)=(R.1,R.2.1)∧vv nf M c vm se k=R.2.2∧(R.2.2.ca=0→R.2.2=_root_.Go.Proofs.YtibhbjbpodlpiaaGreat.t0)):=by
     refine ⟨by rw[←hR];rfl,by rw[←hR];rfl,?_⟩
     rw[←hR];exact step_zero nf _ _ vm se _
    have hok:=RR.out.ok
    have HKM:Hid (k<many):=hlt
    clear RR fU hk hlt
    obtain ⟨S1,hS⟩:∃ S1,mz nf M c vm se k=S1:=⟨_,rfl⟩
    rw[hS] at rA hM HF hR hok
    obtain ⟨M1,c1⟩:=S1
    replace rA:Row va gA (cpA c1) 30:=rA
    replace hM:IsMc va B nf M1:=hM
    replace HF:Hid (M1.few (n0+2*k)):=HF
    replace hR:stepI nf M1 c1 vm se=R:=hR
    replace hok:c1.Ok:=hok
    have SA:∀ ix,(ix=c1.pc / 4%8∨c1.bad)→Calls pQ 27 #[.slice (some ⟨N+29,0,none⟩) 26 26,.agg #[π (some ⟨B.p,0,none⟩),π (some ⟨B.bt,0,none⟩),gu (B.v.map Bk.b)],.agg (cpA c1),U κ vm,U κ se,U κ ix] va fun e w'=>e=ρ (τ #[.agg (cpA R.2.1),.agg (trL R.2.2)])∧Fr B.s va w'∧IsMc w' B nf R.1∧R.2.1.Ok:=by
     intro ix hix
     have h:=step_any va N B nf M1 c1 hok vm se ix hO hM HF.out (by have:=HKM.out;have:=HMY.out.1;have:=HMY.out.2;omega) (fun j hj=>Or.inl (by have:=HB.out j hj;have:=HNN.out;omega))
     have e:dx nf M1 c1 vm se ix=R:=by
      rcases hix with rfl | hb
      ·exact hR
      ·rw[wt hb];exact hR
     rw[e] at h
     exact h
    have cpc:=ym rA
    obtain ⟨cc0,cc1,cc2⟩:va.cell? ⟨gM,0,none⟩=some (π (some ⟨B.p,0,none⟩))∧va.cell? ⟨gM,1,none⟩=some (π (some ⟨B.bt,0,none⟩))∧va.cell? ⟨gM,2,none⟩=some (gu (B.v.map Bk.b)):=⟨rM.cell 0,rM.cell 1,rM.cell 2⟩
    clear hR hM hok HF
    obtain ⟨Mx,cx,Tx⟩:=R
    have SB:∀ ix,Hid (ix=c1.pc / 4%8∨c1.bad)→Calls pQ 27 #[.slice (some ⟨N+29,0,none⟩) 26 26,.agg #[π (some ⟨B.p,0,none⟩),π (some ⟨B.bt,0,none⟩),gu (B.v.map Bk.b)],.agg (cpA c1),U κ vm,U κ se,U κ ix] va fun e w'=>e=ρ (τ #[.agg (cpA cx),.agg (trL Tx)])∧Fr B.s va w'∧IsMc w' B nf Mx∧cx.Ok:=fun ix h=>SA ix h.out
    clear SA
    by_cases hb:c1.bad
    ·have HBB:Hid c1.bad:=hb
     clear hb
     go_wp2_with (refine bh rfl 30 _ rfl gA rfl (cpA c1) _ (p7 rA) Tryz.underlying30 rfl (bk c1) ?_)
     refine(SB _ (Or.inr HBB.out)).mono ?_
     rintro e v2 ⟨rfl,g2,hM2,hok2⟩
     clear SB cc0 cc1 cc2 cpc
     have ns:∀ j,w.heap.size≤j→¬ B.s j:=fun j hj e=>by have:=HB.out j (Or.inl e);omega
     replace rM:=rM.keep g2 (ns _ (by have:=HN.out;omega))
     replace rA:=rA.keep g2 (ns _ (by have:=HN.out;omega))
     replace rZ:=rZ.keep g2 (ns _ (by have:=HN.out;omega))
     replace rT:=rT.keep g2 (ns _ (by have:=HN.out;omega))
     replace rU:=rU.keep g2 (ns _ (by have:=HU.out;have:=HNN.out;omega))
     replace hO:=hO.keep g2 (fun j h1 _=>ns j (by have:=HNN.out;omega))
     replace f1:=f1.trans g2
     clear g2
     have dA:∀ j,j≠gA→¬ at' gA j:=fun j h e=>h e
     have dU:∀ j,j≠gU→¬ at' gU j:=fun j h e=>h e
     have rU1:=rU.keep (bb v2 gA (cpA cx)) (dA _ (by have:=HU.out;have:=HN.out;have:=HNN.out;omega))
     have rM1:=(rM.keep (bb v2 gA (cpA cx)) (dA _ (by have:=HN.out;omega))).keep (bb _ gU (trL Tx)) (dU _ (by have:=HU.out;have:=HN.out;have:=HNN.out;omega))
     have rA1:Row ((v2.setRow gA (cpA cx)).setRow gU (trL Tx)) gA (cpA cx) 30:=(rA.setRow).keep (bb _ gU (trL Tx)) (dU _ (by have:=HU.out;have:=HN.out;have:=HNN.out;omega))
     have rZ1:=(rZ.keep (bb v2 gA (cpA cx)) (dA _ (by have:=HN.out;omega))).keep (bb _ gU (trL Tx)) (dU _ (by have:=HU.out;have:=HN.out;have:=HNN.out;omega))
     have rT1:=(rT.keep (bb v2 gA (cpA cx)) (dA _ (by have:=HN.out;omega))).keep (bb _ gU (trL Tx)) (dU _ (by have:=HU.out;have:=HN.out;have:=HNN.out;omega))
     have rU2:Row ((v2.setRow gA (cpA cx)).setRow gU (trL Tx)) gU (trL Tx) 52:=rU1.setRow
     have f2:=bp (bp f1 (g:=gA) (by have:=HN.out;omega) (cpA cx)) (g:=gU) (by have:=HU.out;have:=HNN.out;omega) (trL Tx)
     have m1:=ja hM2 (bb v2 gA (cpA cx)) (fun j hj e=>by have e':j=gA:=e;have:=HB.out j hj;have:=HN.out;omega)
     have m2:=ja m1 (bb _ gU (trL Tx)) (fun j hj e=>by have e':j=gU:=e;have:=HB.out j hj;have:=HU.out;have:=HNN.out;omega)
     have o2:=(hO.keep (bb v2 gA (cpA cx)) (fun j h1 _ e=>by have e':j=gA:=e;have:=HN.out;have:=HNN.out;omega)).keep (bb _ gU (trL Tx)) (fun j h1 h2 e=>by have e':j=gU:=e;have:=HU.out;omega)
     have z2:Hid (N+30≤((v2.setRow gA (cpA cx)).setRow gU (trL Tx)).heap.size):=by have:=rU2.lt;have:=HU.out;show _≤_;omega
     clear rM rZ rT hM2 m1 hO f1
     have lo:(cpA c1).size=(cpA cx).size:=by rw[bj,bj]
     have AA:Hid (Row ((v2.setRow gA (cpA cx)).setRow gU (trL Tx)) gM #[π (some ⟨B.p,0,none⟩),π (some ⟨B.bt,0,none⟩),gu (B.v.map Bk.b)] 37∧Row ((v2.setRow gA (cpA cx)).setRow gU (trL Tx)) gA (cpA cx) 30∧Row ((v2.setRow gA (cpA cx)).setRow gU (trL Tx)) gZ (cpA zc) 30∧Row ((v2.setRow gA (cpA cx)).setRow gU (trL Tx)) gT #[U κ 0,U κ 0,U κ 0,U κ 0,U κ 0,U κ 0,β false,U κ 0] 52∧Row ((v2.setRow gA (cpA cx)).setRow gU (trL Tx)) gU (trL Tx) 52∧Fr B.s w ((v2.setRow gA (cpA cx)).setRow gU (trL Tx))∧IsMc ((v2.setRow gA (cpA cx)).setRow gU (trL Tx)) B nf Mx∧Ops ((v2.setRow gA (cpA cx)).setRow gU (trL Tx)) N):=⟨rM1,rA1,rZ1,rT1,rU2,f2,m2,o2⟩
     clear rM1 rA1 rZ1 rT1 rU2 f2 m2 o2
     go_upto_region 6 with(first | refine wpList_store_row rfl 30 _ _ rfl gA (cpA cx) rfl rfl 30 (cpA c1) rA (bk cx) lo (bw cx) ?_ | refine wpList_store_row rfl 52 _ _ rfl gU (trL Tx) rfl rfl 52 #[U κ 0,U κ 0,U κ 0,U κ 0,U κ 0,U κ 0,β false,U κ 0] rU1 bn rfl (jr Tx) ?_)
     clear rA rU rU1 lo
     obtain ⟨v3,hv3⟩:∃ v3,v3=(v2.setRow gA (cpA cx)).setRow gU (trL Tx):=⟨_,rfl⟩
     rw[←hv3] at AA z2 ⊢
     clear hv3
     have uc:v3.cell? ⟨gU,0,none⟩=some (U κ Tx.ca):=AA.out.2.2.2.2.1.cell 0
     have HOK:Hid cx.Ok:=hok2
     clear hok2
     by_cases ht:Tx.ca=0
     ·have ut:(Tx.ca != 0)=false:=by simpa using ht
      have HTZ:Hid (Tx.ca=0):=ht
      have hk9:k≤1000:=by have:=HKM.out;have:=HMY.out.1;omega
      clear ht
      go_wp2_with fail
      go_roundw
      case rel =>
       refine ⟨k+1,by have:=HKM.out;omega,by simp,?_⟩
       obtain ⟨a1,a2,a3,a4,a5,a6,a7,a8⟩:=AA.out
       obtain ⟨q1,q2,q3⟩:=HQ.out
       refine ⟨a6,a1,?_,a3,a4,?_,a8,?_,?_,z2.out⟩
       ·rw[q1];exact a2
       ·rw[q1];exact a7
       ·intro j hj
        by_cases e:j<k
        ·exact HT.out j e
        ·obtain rfl:j=k:=by omega
         rw[q2];exact HTZ.out
       ·rw[q1];exact HOK.out
      case measure =>
       have:=HKM.out
       simp[intOf];omega
     ·have ut:(Tx.ca != 0)=true:=by simpa using ht
      have HTZ:Hid (Tx.ca≠0):=ht
      clear ht
      go_upto_region 7 with fail
      obtain ⟨a1,a2,a3,a4,a5,a6,a7,a8⟩:=AA.out
      clear uc ut AA
      refine wp_region_held (S:=fun w'=>Row w' gA (cpA cx) 30∧Row w' gU (trL Tx) 52) (by kernel_rfl) ?_
      change wpAnyH _ _ _ _ _ _ _ _ (World.drew _)
      refine wpAnyH_take (i:=0) (v:=.agg (cpL cx).toArray) rfl (by kernel_rfl) (by kernel_rfl) (by kernel_rfl) (fun _ _ _ h=>h) (yieldsIf_load_mid (by kernel_rfl) 30 _ rfl gA 0 rfl (cpL cx) _ (fun _ h=>dc h.1) Tryz.underlying30 rfl (dw cx)) ⟨a2.drew,a5.drew⟩ ?_
      show wpAnyH _ _ _ _ _ _ _ (Act.put _ (some 37) _) _
      simp only[Act.put,sA,sB,sC]
      refine wpAnyH_take (i:=1) (v:=.agg ([U κ Tx.ca,U κ Tx.nu,U κ Tx.ad,U κ Tx.f.k,U κ Tx.f.s,U κ Tx.f.l,β Tx.f.wk,U κ Tx.f.p]).toArray) rfl (by kernel_rfl) (by kernel_rfl) (by kernel_rfl) (fun _ _ _ h=>h) (yieldsIf_load_mid (by kernel_rfl) 52 _ rfl gU 0 rfl ([U κ Tx.ca,U κ Tx.nu,U κ Tx.ad,U κ Tx.f.k,U κ Tx.f.s,U κ Tx.f.l,β Tx.f.wk,U κ Tx.f.p]) _ (fun _ h=>jn h.2) Tryz.underlying52 rfl bn) ⟨a2.drew,a5.drew⟩ ?_
      show wpAnyH _ _ _ _ _ _ _ (Act.put _ (some 38) _) _
      simp only[Act.put,sA,sB,sC]
      refine tkQ 2 (v:=?_) rfl (by kernel_rfl) (fun _ _ _ h=>h) (fun w hS=>?_) ⟨a2.drew,a5.drew⟩ ?_
      rotate_left
      ·go_simp
       try with_reducible rfl
      show wpAnyH _ _ _ _ _ _ _ (Act.put _ (some 39) _) _
      simp only[Act.put,sA,sB,sC]
      have dZ:∀ j,j≠gZ→¬ at' gZ j:=fun j h e=>h e
      have dT:∀ j,j≠gT→¬ at' gT j:=fun j h e=>h e
      have b2:=a2.drew.keep (bb _ gZ (cpA cx)) (dZ _ (by have:=HN.out;omega))
      have b5:=a5.drew.keep (bb _ gZ (cpA cx)) (dZ _ (by have:=HU.out;have:=HN.out;have:=HNN.out;omega))
      have b4:=a4.drew.keep (bb _ gZ (cpA cx)) (dZ _ (by have:=HN.out;omega))
      have e2:=b2.keep (bb _ gT (trL Tx)) (dT _ (by have:=HN.out;omega))
      have e5:=b5.keep (bb _ gT (trL Tx)) (dT _ (by have:=HU.out;have:=HN.out;have:=HNN.out;omega))
      have eZ:Row (((v3.drew).setRow gZ (cpA cx)).setRow gT (trL Tx)) gZ (cpA cx) 30:=(a3.drew.setRow).keep (bb _ gT (trL Tx)) (dT _ (by have:=HN.out;omega))
      have eT:Row (((v3.drew).setRow gZ (cpA cx)).setRow gT (trL Tx)) gT (trL Tx) 52:=b4.setRow
      have f3:=bp (bp a6.drew (g:=gZ) (by have:=HN.out;omega) (cpA cx)) (g:=gT) (by have:=HN.out;omega) (trL Tx)
      have m1:=ja (ja (a7.keep0 (Fr.refl bg v3).drew) (bb _ gZ (cpA cx)) (fun j hj e=>by have e':j=gZ:=e;have:=HB.out j hj;have:=HN.out;omega)) (bb _ gT (trL Tx)) (fun j hj e=>by have e':j=gT:=e;have:=HB.out j hj;have:=HN.out;omega)
      have lo:(cpA zc).size=(cpA cx).size:=by rw[bj,bj]
      refine wpAnyH_all (rs:=[3]) (by kernel_rfl) (by simp) ?_
      intro i hi
      obtain rfl:i=3:=by simpa using hi
      clear hi
      refine ck rfl (by kernel_rfl) ?_
      refine wp_store_row 30 _ _ rfl gZ (cpA cx) rfl rfl 30 (cpA zc) a3.drew (bk cx) lo (bw cx) ?_
      refine ⟨⟨b2,b5⟩,?_⟩
      show wpAnyH _ _ _ _ _ _ _ _ _
      refine wpAnyH_all (rs:=[4]) (by kernel_rfl) (by simp) ?_
      intro i hi
      obtain rfl:i=4:=by simpa using hi
      clear hi
      refine ck rfl (by kernel_rfl) ?_
      refine wp_store_row 52 _ _ rfl gT (trL Tx) rfl rfl 52 #[U κ 0,U κ 0,U κ 0,U κ 0,U κ 0,U κ 0,β false,U κ 0] b4 bn rfl (jr Tx) ?_
      refine ⟨⟨e2,e5⟩,?_⟩
      show wpAnyH _ _ _ _ _ _ _ _ _
      refine tkQ 5 (v:=?_) rfl (by kernel_rfl) (fun _ _ _ h=>h) (fun w hS=>?_) ⟨e2,e5⟩ ?_
      rotate_left
      ·go_simp
       try with_reducible rfl
      show wpAnyH _ _ _ _ _ _ _ (Act.put _ (some 12) _) _
      go_simp
      refine wpAnyH_done (by kernel_rfl) ?_ _
      go_wp2_with fail
      refine bodyPost_ret (pz rfl rfl rfl eZ (bj _) eT rfl) rfl ?_
      refine ⟨k,Mx,cx,Tx,rfl,f3,m1,⟨HT.out,Or.inr ⟨HKM.out,?_,?_,?_,?_⟩⟩,HOK.out⟩
      ·rw[HQ.out.2.1];exact HTZ.out
      ·rw[HQ.out.1]
      ·rw[HQ.out.1]
      ·exact HQ.out.2.1.symm
    ·have hp:0≤c1.pc∧c1.pc≤65535:=by unfold Cp.bad at hb;omega
     obtain ⟨hp0,hp1⟩:=hp
     clear hb
     go_wp2_with (refine bh rfl 30 _ rfl gA rfl (cpA c1) _ (p7 rA) Tryz.underlying30 rfl (bk c1) ?_)
     refine(SB _ (Or.inl rfl)).mono ?_
     rintro e v2 ⟨rfl,g2,hM2,hok2⟩
     clear SB cc0 cc1 cc2 cpc
     have ns:∀ j,w.heap.size≤j→¬ B.s j:=fun j hj e=>by have:=HB.out j (Or.inl e);omega
     replace rM:=rM.keep g2 (ns _ (by have:=HN.out;omega))
     replace rA:=rA.keep g2 (ns _ (by have:=HN.out;omega))
     replace rZ:=rZ.keep g2 (ns _ (by have:=HN.out;omega))
     replace rT:=rT.keep g2 (ns _ (by have:=HN.out;omega))
     replace rU:=rU.keep g2 (ns _ (by have:=HU.out;have:=HNN.out;omega))
     replace hO:=hO.keep g2 (fun j h1 _=>ns j (by have:=HNN.out;omega))
     replace f1:=f1.trans g2
     clear g2
     have dA:∀ j,j≠gA→¬ at' gA j:=fun j h e=>h e
     have dU:∀ j,j≠gU→¬ at' gU j:=fun j h e=>h e
     have rU1:=rU.keep (bb v2 gA (cpA cx)) (dA _ (by have:=HU.out;have:=HN.out;have:=HNN.out;omega))
     have rM1:=(rM.keep (bb v2 gA (cpA cx)) (dA _ (by have:=HN.out;omega))).keep (bb _ gU (trL Tx)) (dU _ (by have:=HU.out;have:=HN.out;have:=HNN.out;omega))
     have rA1:Row ((v2.setRow gA (cpA cx)).setRow gU (trL Tx)) gA (cpA cx) 30:=(rA.setRow).keep (bb _ gU (trL Tx)) (dU _ (by have:=HU.out;have:=HN.out;have:=HNN.out;omega))
     have rZ1:=(rZ.keep (bb v2 gA (cpA cx)) (dA _ (by have:=HN.out;omega))).keep (bb _ gU (trL Tx)) (dU _ (by have:=HU.out;have:=HN.out;have:=HNN.out;omega))
     have rT1:=(rT.keep (bb v2 gA (cpA cx)) (dA _ (by have:=HN.out;omega))).keep (bb _ gU (trL Tx)) (dU _ (by have:=HU.out;have:=HN.out;have:=HNN.out;omega))
     have rU2:Row ((v2.setRow gA (cpA cx)).setRow gU (trL Tx)) gU (trL Tx) 52:=rU1.setRow
     have f2:=bp (bp f1 (g:=gA) (by have:=HN.out;omega) (cpA cx)) (g:=gU) (by have:=HU.out;have:=HNN.out;omega) (trL Tx)
     have m1:=ja hM2 (bb v2 gA (cpA cx)) (fun j hj e=>by have e':j=gA:=e;have:=HB.out j hj;have:=HN.out;omega)
     have m2:=ja m1 (bb _ gU (trL Tx)) (fun j hj e=>by have e':j=gU:=e;have:=HB.out j hj;have:=HU.out;have:=HNN.out;omega)
     have o2:=(hO.keep (bb v2 gA (cpA cx)) (fun j h1 _ e=>by have e':j=gA:=e;have:=HN.out;have:=HNN.out;omega)).keep (bb _ gU (trL Tx)) (fun j h1 h2 e=>by have e':j=gU:=e;have:=HU.out;omega)
     have z2:Hid (N+30≤((v2.setRow gA (cpA cx)).setRow gU (trL Tx)).heap.size):=by have:=rU2.lt;have:=HU.out;show _≤_;omega
     clear rM rZ rT hM2 m1 hO f1
     have lo:(cpA c1).size=(cpA cx).size:=by rw[bj,bj]
     have AA:Hid (Row ((v2.setRow gA (cpA cx)).setRow gU (trL Tx)) gM #[π (some ⟨B.p,0,none⟩),π (some ⟨B.bt,0,none⟩),gu (B.v.map Bk.b)] 37∧Row ((v2.setRow gA (cpA cx)).setRow gU (trL Tx)) gA (cpA cx) 30∧Row ((v2.setRow gA (cpA cx)).setRow gU (trL Tx)) gZ (cpA zc) 30∧Row ((v2.setRow gA (cpA cx)).setRow gU (trL Tx)) gT #[U κ 0,U κ 0,U κ 0,U κ 0,U κ 0,U κ 0,β false,U κ 0] 52∧Row ((v2.setRow gA (cpA cx)).setRow gU (trL Tx)) gU (trL Tx) 52∧Fr B.s w ((v2.setRow gA (cpA cx)).setRow gU (trL Tx))∧IsMc ((v2.setRow gA (cpA cx)).setRow gU (trL Tx)) B nf Mx∧Ops ((v2.setRow gA (cpA cx)).setRow gU (trL Tx)) N):=⟨rM1,rA1,rZ1,rT1,rU2,f2,m2,o2⟩
     clear rM1 rA1 rZ1 rT1 rU2 f2 m2 o2
     go_upto_region 6 with(first | refine wpList_store_row rfl 30 _ _ rfl gA (cpA cx) rfl rfl 30 (cpA c1) rA (bk cx) lo (bw cx) ?_ | refine wpList_store_row rfl 52 _ _ rfl gU (trL Tx) rfl rfl 52 #[U κ 0,U κ 0,U κ 0,U κ 0,U κ 0,U κ 0,β false,U κ 0] rU1 bn rfl (jr Tx) ?_)
     clear rA rU rU1 lo
     obtain ⟨v3,hv3⟩:∃ v3,v3=(v2.setRow gA (cpA cx)).setRow gU (trL Tx):=⟨_,rfl⟩
     rw[←hv3] at AA z2 ⊢
     clear hv3
     have uc:v3.cell? ⟨gU,0,none⟩=some (U κ Tx.ca):=AA.out.2.2.2.2.1.cell 0
     have HOK:Hid cx.Ok:=hok2
     clear hok2
     by_cases ht:Tx.ca=0
     ·have ut:(Tx.ca != 0)=false:=by simpa using ht
      have HTZ:Hid (Tx.ca=0):=ht
      have hk9:k≤1000:=by have:=HKM.out;have:=HMY.out.1;omega
      clear ht
      go_wp2_with fail
      go_roundw
      case rel =>
       refine ⟨k+1,by have:=HKM.out;omega,by simp,?_⟩
       obtain ⟨a1,a2,a3,a4,a5,a6,a7,a8⟩:=AA.out
       obtain ⟨q1,q2,q3⟩:=HQ.out
       refine ⟨a6,a1,?_,a3,a4,?_,a8,?_,?_,z2.out⟩
       ·rw[q1];exact a2
       ·rw[q1];exact a7
       ·intro j hj
        by_cases e:j<k
        ·exact HT.out j e
        ·obtain rfl:j=k:=by omega
         rw[q2];exact HTZ.out
       ·rw[q1];exact HOK.out
      case measure =>
       have:=HKM.out
       simp[intOf];omega
     ·have ut:(Tx.ca != 0)=true:=by simpa using ht
      have HTZ:Hid (Tx.ca≠0):=ht
      clear ht
      go_upto_region 7 with fail
      obtain ⟨a1,a2,a3,a4,a5,a6,a7,a8⟩:=AA.out
      clear uc ut AA
      refine wp_region_held (S:=fun w'=>Row w' gA (cpA cx) 30∧Row w' gU (trL Tx) 52) (by kernel_rfl) ?_
      change wpAnyH _ _ _ _ _ _ _ _ (World.drew _)
      refine wpAnyH_take (i:=0) (v:=.agg (cpL cx).toArray) rfl (by kernel_rfl) (by kernel_rfl) (by kernel_rfl) (fun _ _ _ h=>h) (yieldsIf_load_mid (by kernel_rfl) 30 _ rfl gA 0 rfl (cpL cx) _ (fun _ h=>dc h.1) Tryz.underlying30 rfl (dw cx)) ⟨a2.drew,a5.drew⟩ ?_
      show wpAnyH _ _ _ _ _ _ _ (Act.put _ (some 37) _) _
      simp only[Act.put,sA,sB,sC]
      refine wpAnyH_take (i:=1) (v:=.agg ([U κ Tx.ca,U κ Tx.nu,U κ Tx.ad,U κ Tx.f.k,U κ Tx.f.s,U κ Tx.f.l,β Tx.f.wk,U κ Tx.f.p]).toArray) rfl (by kernel_rfl) (by kernel_rfl) (by kernel_rfl) (fun _ _ _ h=>h) (yieldsIf_load_mid (by kernel_rfl) 52 _ rfl gU 0 rfl ([U κ Tx.ca,U κ Tx.nu,U κ Tx.ad,U κ Tx.f.k,U κ Tx.f.s,U κ Tx.f.l,β Tx.f.wk,U κ Tx.f.p]) _ (fun _ h=>jn h.2) Tryz.underlying52 rfl bn) ⟨a2.drew,a5.drew⟩ ?_
      show wpAnyH _ _ _ _ _ _ _ (Act.put _ (some 38) _) _
      simp only[Act.put,sA,sB,sC]
      refine tkQ 2 (v:=?_) rfl (by kernel_rfl) (fun _ _ _ h=>h) (fun w hS=>?_) ⟨a2.drew,a5.drew⟩ ?_
      rotate_left
      ·go_simp
       try with_reducible rfl
      show wpAnyH _ _ _ _ _ _ _ (Act.put _ (some 39) _) _
      simp only[Act.put,sA,sB,sC]
      have dZ:∀ j,j≠gZ→¬ at' gZ j:=fun j h e=>h e
      have dT:∀ j,j≠gT→¬ at' gT j:=fun j h e=>h e
      have b2:=a2.drew.keep (bb _ gZ (cpA cx)) (dZ _ (by have:=HN.out;omega))
      have b5:=a5.drew.keep (bb _ gZ (cpA cx)) (dZ _ (by have:=HU.out;have:=HN.out;have:=HNN.out;omega))
      have b4:=a4.drew.keep (bb _ gZ (cpA cx)) (dZ _ (by have:=HN.out;omega))
      have e2:=b2.keep (bb _ gT (trL Tx)) (dT _ (by have:=HN.out;omega))
      have e5:=b5.keep (bb _ gT (trL Tx)) (dT _ (by have:=HU.out;have:=HN.out;have:=HNN.out;omega))
      have eZ:Row (((v3.drew).setRow gZ (cpA cx)).setRow gT (trL Tx)) gZ (cpA cx) 30:=(a3.drew.setRow).keep (bb _ gT (trL Tx)) (dT _ (by have:=HN.out;omega))
      have eT:Row (((v3.drew).setRow gZ (cpA cx)).setRow gT (trL Tx)) gT (trL Tx) 52:=b4.setRow
      have f3:=bp (bp a6.drew (g:=gZ) (by have:=HN.out;omega) (cpA cx)) (g:=gT) (by have:=HN.out;omega) (trL Tx)
      have m1:=ja (ja (a7.keep0 (Fr.refl bg v3).drew) (bb _ gZ (cpA cx)) (fun j hj e=>by have e':j=gZ:=e;have:=HB.out j hj;have:=HN.out;omega)) (bb _ gT (trL Tx)) (fun j hj e=>by have e':j=gT:=e;have:=HB.out j hj;have:=HN.out;omega)
      have lo:(cpA zc).size=(cpA cx).size:=by rw[bj,bj]
      refine wpAnyH_all (rs:=[3]) (by kernel_rfl) (by simp) ?_
      intro i hi
      obtain rfl:i=3:=by simpa using hi
      clear hi
      refine ck rfl (by kernel_rfl) ?_
      refine wp_store_row 30 _ _ rfl gZ (cpA cx) rfl rfl 30 (cpA zc) a3.drew (bk cx) lo (bw cx) ?_
      refine ⟨⟨b2,b5⟩,?_⟩
      show wpAnyH _ _ _ _ _ _ _ _ _
      refine wpAnyH_all (rs:=[4]) (by kernel_rfl) (by simp) ?_
      intro i hi
      obtain rfl:i=4:=by simpa using hi
      clear hi
      refine ck rfl (by kernel_rfl) ?_
      refine wp_store_row 52 _ _ rfl gT (trL Tx) rfl rfl 52 #[U κ 0,U κ 0,U κ 0,U κ 0,U κ 0,U κ 0,β false,U κ 0] b4 bn rfl (jr Tx) ?_
      refine ⟨⟨e2,e5⟩,?_⟩
      show wpAnyH _ _ _ _ _ _ _ _ _
      refine tkQ 5 (v:=?_) rfl (by kernel_rfl) (fun _ _ _ h=>h) (fun w hS=>?_) ⟨e2,e5⟩ ?_
      rotate_left
      ·go_simp
       try with_reducible rfl
      show wpAnyH _ _ _ _ _ _ _ (Act.put _ (some 12) _) _
      go_simp
      refine wpAnyH_done (by kernel_rfl) ?_ _
      go_wp2_with fail
      refine bodyPost_ret (pz rfl rfl rfl eZ (bj _) eT rfl) rfl ?_
      refine ⟨k,Mx,cx,Tx,rfl,f3,m1,⟨HT.out,Or.inr ⟨HKM.out,?_,?_,?_,?_⟩⟩,HOK.out⟩
      ·rw[HQ.out.2.1];exact HTZ.out
      ·rw[HQ.out.1]
      ·rw[HQ.out.1]
      ·exact HQ.out.2.1.symm
   ·have HKK:Hid (k=many):=(show k=many by omega)
    first | have uk:decide ((k:Int)<mny)=false:=decide_eq_false (by have:=HMX.out;have:=HKK.out;omega) | have uk:decide ((k:Int)<1000)=false:=decide_eq_false (by have:=HMX.out;have:=HKK.out;omega)
    have rA:=RR.out.rA
    have rZ:=RR.out.rZ
    have rT:=RR.out.rT
    have f1:=RR.out.f
    have hM:=RR.out.m
    have HT:Hid (∀ j,j<k→(vv nf M c vm se j).ca=0):=RR.out.t
    have HOK:Hid ((mz nf M c vm se k).2.Ok):=RR.out.ok
    have HS:Hid (mz nf M c vm se k=mz nf M c vm se k):=rfl
    clear RR hk hlt
    obtain ⟨M1,hM1⟩:∃ q,q=(mz nf M c vm se k).1:=⟨_,rfl⟩
    obtain ⟨c1,hc1⟩:∃ q,q=(mz nf M c vm se k).2:=⟨_,rfl⟩
    rw[←hM1] at hM
    rw[←hc1] at rA HOK
    have HE:Hid (M1=(mz nf M c vm se k).1∧c1=(mz nf M c vm se k).2):=⟨hM1,hc1⟩
    clear hM1 hc1 HS
    have lo:(cpA zc).size=(cpA c1).size:=by rw[bj,bj]
    have dT:∀ j,j≠gT→¬ at' gT j:=fun j h e=>h e
    have rT1:=rT.keep (bb wr gZ (cpA c1)) (fun e=>by have e':gT=gZ:=e;have:=HN.out;omega)
    have eZ:Row ((wr.setRow gZ (cpA c1)).setRow gT #[U κ 0,U κ 0,U κ 0,U κ 0,U κ 0,U κ 0,β false,U κ 0]) gZ (cpA c1) 30:=(rZ.setRow).keep (bb _ gT #[U κ 0,U κ 0,U κ 0,U κ 0,U κ 0,U κ 0,β false,U κ 0]) (dT _ (by have:=HN.out;omega))
    have eT:Row ((wr.setRow gZ (cpA c1)).setRow gT #[U κ 0,U κ 0,U κ 0,U κ 0,U κ 0,U κ 0,β false,U κ 0]) gT #[U κ 0,U κ 0,U κ 0,U κ 0,U κ 0,U κ 0,β false,U κ 0] 52:=rT1.setRow
    have f3:=bp (bp f1 (g:=gZ) (by have:=HN.out;omega) (cpA c1)) (g:=gT) (by have:=HN.out;omega) #[U κ 0,U κ 0,U κ 0,U κ 0,U κ 0,U κ 0,β false,U κ 0]
    have m1:=ja (ja hM (bb _ gZ (cpA c1)) (fun j hj e=>by have e':j=gZ:=e;have:=HB.out j hj;have:=HN.out;omega)) (bb _ gT #[U κ 0,U κ 0,U κ 0,U κ 0,U κ 0,U κ 0,β false,U κ 0]) (fun j hj e=>by have e':j=gT:=e;have:=HB.out j hj;have:=HN.out;omega)
    have ZZ:Hid (Row ((wr.setRow gZ (cpA c1)).setRow gT #[U κ 0,U κ 0,U κ 0,U κ 0,U κ 0,U κ 0,β false,U κ 0]) gZ (cpA c1) 30∧Row ((wr.setRow gZ (cpA c1)).setRow gT #[U κ 0,U κ 0,U κ 0,U κ 0,U κ 0,U κ 0,β false,U κ 0]) gT #[U κ 0,U κ 0,U κ 0,U κ 0,U κ 0,U κ 0,β false,U κ 0] 52∧Fr B.s w ((wr.setRow gZ (cpA c1)).setRow gT #[U κ 0,U κ 0,U κ 0,U κ 0,U κ 0,U κ 0,β false,U κ 0])∧IsMc ((wr.setRow gZ (cpA c1)).setRow gT #[U κ 0,U κ 0,U κ 0,U κ 0,U κ 0,U κ 0,β false,U κ 0]) B nf M1):=⟨eZ,eT,f3,m1⟩
    clear eZ eT f3 m1
    go_wp2_with (first | refine bh rfl 30 _ rfl gA rfl (cpA c1) _ (p7 rA) Tryz.underlying30 rfl (bk c1) ?_ | refine wpList_store_row rfl 30 _ _ rfl gZ (cpA c1) rfl rfl 30 (cpA zc) rZ (bk c1) lo (bw c1) ?_ | refine wpList_store_row rfl 52 _ _ rfl gT #[U κ 0,U κ 0,U κ 0,U κ 0,U κ 0,U κ 0,β false,U κ 0] rfl rfl 52 #[U κ 0,U κ 0,U κ 0,U κ 0,U κ 0,U κ 0,β false,U κ 0] rT1 bn rfl (by simp[Value.oneCell']) ?_)
    obtain ⟨eZ,eT,f3,m1⟩:=ZZ.out
    refine bodyPost_ret (pz rfl rfl rfl eZ (bj _) eT rfl) rfl ?_
    refine ⟨k,M1,c1,_root_.Go.Proofs.YtibhbjbpodlpiaaGreat.t0,rfl,f3,m1,⟨HT.out,Or.inl ⟨HKK.out,HE.out.1,HE.out.2,rfl⟩⟩,HOK.out⟩
theorem fr_far {S:Nat→Prop} {w a b:World} (f:Fr bg w a) (g:Fr S a b) (h:∀ k,S k→w.heap.size≤k):Fr bg w b:=
 ⟨g.os.trans f.os,g.tape.trans f.tape,g.output.trans f.output,Nat.le_trans f.size g.size,fun k hk hn=>by
  rw[g.block k (Nat.lt_of_lt_of_le hk f.size) (fun e=>by have:=h k e;omega)];exact f.block k hk hn⟩
theorem tr_at {w:World} {g:Nat} {t:Tr} {ty:TypeId} (h:Row w g (trL t) ty):∀ j v,(trL t)[j]? = some v→w.cell? ⟨g,j,none⟩=some v:=fun j _ hv=>(h.cell j).trans hv
theorem ix_eq {p:Int} (h0:0≤p) (h1:p≤65535):(wrap64 (p.tdiv 4)).tmod 8=p / 4%8:=by
 have e1:p.tdiv 4=p / 4:=Int.tdiv_eq_ediv_of_nonneg h0
 have e2:wrap64 (p / 4)=p / 4:=by unfold wrap64;omega
 rw[e1,e2,Int.tmod_eq_emod_of_nonneg (by omega)]
theorem Run_neg (w:World) (B:Bm) (nf:Nat) (M:Mc) (c:Cp) (hok:c.Ok) (vm se many:Int) (hmy:many<0) (hM:IsMc w B nf M) :
  Calls pQ 8 #[.agg #[π (some ⟨B.p,0,none⟩),π (some ⟨B.bt,0,none⟩),gu (B.v.map Bk.b)],.agg (cpA c),U κ vm,U κ se,U κ many] w fun e w'=>e=ρ (τ #[.agg (cpA c),.agg (trL _root_.Go.Proofs.YtibhbjbpodlpiaaGreat.t0),U κ 0])∧Fr B.s w w'∧IsMc w' B nf M:=by
 have HB:Hid (∀ k,(B.s k∨k=B.p)→k<w.heap.size):=hM.ltp
 have hz:∀ w,Sem.run pQ (zeroValue 30) w=.ok (.agg (cpA zc)) w:=my
 obtain ⟨v0,hv0⟩:∃ v0,v0=(((w.alloc (ω #[π (some ⟨B.p,0,none⟩),π (some ⟨B.bt,0,none⟩),gu (B.v.map Bk.b)] 37)).alloc (ω (cpA c) 30)).alloc (ω (cpA zc) 30)).alloc (ω #[U κ 0,U κ 0,U κ 0,U κ 0,U κ 0,U κ 0,β false,U κ 0] 52):=⟨_,rfl⟩
 have f0:Fr bg w v0:=by rw[hv0];exact((((Fr.refl bg w).alloc _).alloc _).alloc _).alloc _
 have rM:Row v0 w.heap.size #[π (some ⟨B.p,0,none⟩),π (some ⟨B.bt,0,none⟩),gu (B.v.map Bk.b)] 37:=by rw[hv0];exact(((ba _ _ _).alloc _).alloc _).alloc _
 have rA:Row v0 (w.heap.size+1) (cpA c) 30:=by rw[hv0];exact((dq (by simp)).alloc _).alloc _
 have rZ:Row v0 (w.heap.size+1+1) (cpA zc) 30:=by rw[hv0];exact(dq (by simp)).alloc _
 have rT:Row v0 (w.heap.size+1+1+1) #[U κ 0,U κ 0,U κ 0,U κ 0,U κ 0,U κ 0,β false,U κ 0] 52:=by rw[hv0];exact dq (by simp)
 have hsz:Hid (v0.heap.size=w.heap.size+4):=by show _=_;rw[hv0];simp
 have u1000:decide ((1000:Int)<many)=false:=decide_eq_false (by omega)
 have v1000:¬ ((1000:Int)<many):=by omega
 have uk:decide ((0:Int)<many)=false:=decide_eq_false (by omega)
 clear hmy
 go_enter Tryz.func8,Tryz.ntmps8
 go_upto_region 1 with fail
 rw[←hv0]
 clear hv0 hz
 obtain ⟨gM,hgM⟩:∃ g,g=w.heap.size:=⟨_,rfl⟩
 obtain ⟨gA,hgA⟩:∃ g,g=w.heap.size+1:=⟨_,rfl⟩
 obtain ⟨gZ,hgZ⟩:∃ g,g=w.heap.size+1+1:=⟨_,rfl⟩
 obtain ⟨gT,hgT⟩:∃ g,g=w.heap.size+1+1+1:=⟨_,rfl⟩
 rw[←hgT] at rT ⊢
 rw[←hgZ] at rZ ⊢
 rw[←hgA] at rA ⊢
 rw[←hgM] at rM ⊢
 have HN:Hid (gM=w.heap.size∧gA=w.heap.size+1∧gZ=w.heap.size+2∧gT=w.heap.size+3):=by show _∧_;omega
 clear hgA hgZ hgT hgM
 go_wp2_with fail
 refine(ops_any v0 v0.heap.size rfl).mono ?_
 rintro e v1 ⟨rfl,g1,hO⟩
 obtain ⟨N,hN⟩:∃ N,N=v0.heap.size:=⟨_,rfl⟩
 rw[←hN] at hO ⊢
 have HNN:Hid (N=w.heap.size+4):=by show _=_;rw[hN,hsz.out]
 have hR:Hid (Rn w v1 B nf N gM gA gZ gT M c vm se 0):=by
  have hlt:=hO.list.lt
  refine ⟨(f0.trans g1).mono (fun _ _ h=>h.elim),rM.keep g1 (fun h=>h),rA.keep g1 (fun h=>h),rZ.keep g1 (fun h=>h),rT.keep g1 (fun h=>h),(hM.keep0 f0).keep0 g1,hO,fun j hj=>absurd hj (Nat.not_lt_zero j),hok,by omega⟩
 clear hN f0 g1 rM rA rZ rT hO hsz hM hok
 go_wp2_with fail
 go_loopw [14,15] (fun i p wr=>wr=v1∧i=U κ 0) (fun _ _ _=>0)
 case atStart=>exact ⟨rfl,rfl⟩
 case round =>
  obtain ⟨rfl,rfl⟩:=hrel
  have rA:=hR.out.rA
  have rZ:=hR.out.rZ
  have rT:=hR.out.rT
  have f1:=hR.out.f
  have hM:=hR.out.m
  clear hR
  obtain ⟨M1,hM1⟩:∃ q,q=M:=⟨_,rfl⟩
  obtain ⟨c1,hc1⟩:∃ q,q=c:=⟨_,rfl⟩
  change IsMc wr B nf M at hM
  change Row wr gA (cpA c) 30 at rA
  rw[←hM1] at hM
  rw[←hc1] at rA
  have HE:Hid (M1=M∧c1=c):=⟨hM1,hc1⟩
  clear hM1 hc1
  have lo:(cpA zc).size=(cpA c1).size:=by rw[bj,bj]
  have dT:∀ j,j≠gT→¬ at' gT j:=fun j h e=>h e
  have rT1:=rT.keep (bb wr gZ (cpA c1)) (fun e=>by have e':gT=gZ:=e;have:=HN.out;omega)
  have eZ:Row ((wr.setRow gZ (cpA c1)).setRow gT #[U κ 0,U κ 0,U κ 0,U κ 0,U κ 0,U κ 0,β false,U κ 0]) gZ (cpA c1) 30:=(rZ.setRow).keep (bb _ gT #[U κ 0,U κ 0,U κ 0,U κ 0,U κ 0,U κ 0,β false,U κ 0]) (dT _ (by have:=HN.out;omega))
  have eT:Row ((wr.setRow gZ (cpA c1)).setRow gT #[U κ 0,U κ 0,U κ 0,U κ 0,U κ 0,U κ 0,β false,U κ 0]) gT #[U κ 0,U κ 0,U κ 0,U κ 0,U κ 0,U κ 0,β false,U κ 0] 52:=rT1.setRow
  have f3:=bp (bp f1 (g:=gZ) (by have:=HN.out;omega) (cpA c1)) (g:=gT) (by have:=HN.out;omega) #[U κ 0,U κ 0,U κ 0,U κ 0,U κ 0,U κ 0,β false,U κ 0]
  have m1:=ja (ja hM (bb _ gZ (cpA c1)) (fun j hj e=>by have e':j=gZ:=e;have:=HB.out j hj;have:=HN.out;omega)) (bb _ gT #[U κ 0,U κ 0,U κ 0,U κ 0,U κ 0,U κ 0,β false,U κ 0]) (fun j hj e=>by have e':j=gT:=e;have:=HB.out j hj;have:=HN.out;omega)
  have ZZ:Hid (Row ((wr.setRow gZ (cpA c1)).setRow gT #[U κ 0,U κ 0,U κ 0,U κ 0,U κ 0,U κ 0,β false,U κ 0]) gZ (cpA c1) 30∧Row ((wr.setRow gZ (cpA c1)).setRow gT #[U κ 0,U κ 0,U κ 0,U κ 0,U κ 0,U κ 0,β false,U κ 0]) gT #[U κ 0,U κ 0,U κ 0,U κ 0,U κ 0,U κ 0,β false,U κ 0] 52∧Fr B.s w ((wr.setRow gZ (cpA c1)).setRow gT #[U κ 0,U κ 0,U κ 0,U κ 0,U κ 0,U κ 0,β false,U κ 0])∧IsMc ((wr.setRow gZ (cpA c1)).setRow gT #[U κ 0,U κ 0,U κ 0,U κ 0,U κ 0,U κ 0,β false,U κ 0]) B nf M1):=⟨eZ,eT,f3,m1⟩
  clear eZ eT f3 m1
  go_wp2_with (first | refine bh rfl 30 _ rfl gA rfl (cpA c1) _ (p7 rA) Tryz.underlying30 rfl (bk c1) ?_ | refine wpList_store_row rfl 30 _ _ rfl gZ (cpA c1) rfl rfl 30 (cpA zc) rZ (bk c1) lo (bw c1) ?_ | refine wpList_store_row rfl 52 _ _ rfl gT #[U κ 0,U κ 0,U κ 0,U κ 0,U κ 0,U κ 0,β false,U κ 0] rfl rfl 52 #[U κ 0,U κ 0,U κ 0,U κ 0,U κ 0,U κ 0,β false,U κ 0] rT1 bn rfl (by simp[Value.oneCell']) ?_)
  obtain ⟨eZ,eT,f3,m1⟩:=ZZ.out
  refine bodyPost_ret (pz rfl rfl rfl eZ (bj _) eT rfl) rfl ?_
  obtain ⟨rfl,rfl⟩:=HE.out
  exact ⟨rfl,f3,m1⟩
end Go.Proofs.YtibhbjbpodlpiaaGreat
