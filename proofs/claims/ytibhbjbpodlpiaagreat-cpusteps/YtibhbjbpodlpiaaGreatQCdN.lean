/-
  Contracts over the translation. No statement is proved here.
-/
import Derived.Test.YtibhbjbpodlpiaaGreatQJX
import Derived.Test.YtibhbjbpodlpiaaGreatQJZ
set_option maxRecDepth 100000
set_option maxHeartbeats 8000000
namespace Go.Proofs.YtibhbjbpodlpiaaGreat
open Go.RowKit
open Go.Value renaming int → U, bool → β, pointer → π, tuple → τ
open Go.IntKind renaming i64 → κ, u32 → μ
open Go.Obj renaming cells → ω
open Go.Ending renaming returned → ρ
open Go.Proofs.Tryz renaming prog → pQ
open List renaming setIfInBounds_toArray → sA, set_cons_succ → sB, set_cons_zero → sC
structure Dq (w wr:World) (D:Bd) (nf gm gc gr gt:Nat) (M:Mc) (c:Cp) (vm se:Int) (k:Nat):Prop where
 f:Fr D.s w wr
 pm:Row wr gm #[π (some ⟨D.p,0,none⟩),π (some ⟨D.t,0,none⟩),gu D.v] 42
 pc:Row wr gc (cpA (mz nf M c vm se k).2) 30
 pr:Row wr gr #[U μ 0,U μ 0,U μ 0,U μ 0,U μ 0,U μ 0,U μ 0,U μ 0,U μ 0,U μ 0,U μ 0,U μ 0,U μ 0,U μ 0,U μ 0,U μ 0,U κ 0,U μ 0,U μ 0,U μ 0,U μ 0,U μ 0,U μ 0,U μ 0,U μ 0] 30
 pt:Row wr gt #[U κ 0,U κ 0,U κ 0,U κ 0,U κ 0,U κ 0,β false,U κ 0] 52
 m:IsMd wr D nf (mz nf M c vm se k).1
 t:∀ j,j<k→(vv nf M c vm se j).ca=0
theorem dRun_any (w:World) (D:Bd) (nf:Nat) (M:Mc) (c:Cp) (hok:c.Ok) (vm se many:Int) (h:IsMd w D nf M) {n0:Nat} (hm:M.few n0) (hn0:n0≤900000) (hz:Vz M vm) :
  Calls pQ 9 #[D.a,.agg (cpA c),U κ vm,U κ se,U κ many] w fun e w'=>∃ k M' c' T,e=ρ (τ #[.agg (cpA c'),.agg (trL T),U κ (k:Nat)])∧Fr D.s w w'∧IsMd w' D nf M'∧Ran nf M c vm se (min many 1000).toNat k M' c' T:=by
 obtain ⟨mm,hmm⟩:∃ mm,(min many 1000).toNat=mm:=⟨_,rfl⟩
 have HMM:Hid (mm≤1000∧(∀ k:Nat,k<mm→(k:Int)<many∧(k:Int)<1000)∧(¬ ((mm:Int)<many)∨¬ ((mm:Int)<1000))):=by
  show _∧_∧_
  refine ⟨by omega,fun k hk=>by omega,by omega⟩
 rw[hmm]
 clear hmm
 unfold Bd.a
 have HL:Hid (∀ k,D.y k→k<w.heap.size):=h.lt
 obtain ⟨v0,gm,gc,gr,gt,hv0,hgm,hgc,hgr,hgt,HG,pm,pc,pr,pt,f0⟩:=lc w D c
 go_enter Tryz.func9,Tryz.ntmps9
 go_upto_region 1 with fail
 rw[←hv0,←hgt,←hgr,←hgc,←hgm]
 clear hv0 hgm hgc hgr hgt
 have HR:Hid (Dq w v0 D nf gm gc gr gt M c vm se 0):=⟨di f0,pm,pc,pr,pt,h.keep0 f0,fun j hj=>absurd hj (Nat.not_lt_zero j)⟩
 have HP:Hid (M.few n0∧Vz M vm∧c.Ok):=⟨hm,hz,hok⟩
 have HN0:Hid (n0≤900000):=hn0
 clear hn0 hm hz hok h pm pc pr pt f0
 have hz:∀ w,Sem.run pQ (zeroValue 30) w=.ok (.agg (cpA zc)) w:=my
 go_wp2_with fail
 go_loopw [13,14,15,16] (fun n _ _ _ wr=>∃ k:Nat,k≤mm∧n=U κ (k:Int)∧Hid (Dq w wr D nf gm gc gr gt M c vm se k)) (fun n _ _ _ _=>mm-(intOf n).toNat)
 case atStart=>exact ⟨0,Nat.zero_le _,rfl,HR⟩
 case round =>
  clear HR
  obtain ⟨k,hk,rfl,RR⟩:=hrel
  by_cases hlt:k<mm
  ·have uk:decide ((k:Int)<many)=true:=decide_eq_true (HMM.out.2.1 k hlt).1
   have uk2:decide ((k:Int)<1000)=true:=decide_eq_true (HMM.out.2.1 k hlt).2
   have HKM:Hid (k<mm):=hlt
   obtain ⟨HFr,pm,pc,pr,pt,h1,HTT⟩:=RR.out
   have HF:Hid (Fr D.s w wr):=HFr
   have HT:Hid (∀ j,j<k→(vv nf M c vm se j).ca=0):=HTT
   have HFW:Hid ((mz nf M c vm se k).1.few (n0+2*k)∧Vz (mz nf M c vm se k).1 vm∧(mz nf M c vm se k).2.Ok):=⟨few_seqN HP.out.1 c vm se k,vz_seq HP.out.2.1 nf c se k,ok_seq HP.out.2.2 nf M vm se k⟩
   obtain ⟨R,hR⟩:∃ R,stepI nf (mz nf M c vm se k).1 (mz nf M c vm se k).2 vm se=R:=⟨_,rfl⟩
   have HQ:Hid (mz nf M c vm se (k+1)=(R.1,R.2.1)∧vv nf M c vm se k=R.2.2):=by
    show _∧_
    exact ⟨by rw[←hR];rfl,by rw[←hR];rfl⟩
   clear RR hk hlt HFr HTT
   obtain ⟨S1,hS⟩:∃ S1,mz nf M c vm se k=S1:=⟨_,rfl⟩
   rw[hS] at pc h1 HFW hR
   obtain ⟨M1,c1⟩:=S1
   replace pc:Row wr gc (cpA c1) 30:=pc
   replace h1:IsMd wr D nf M1:=h1
   replace HFW:Hid (M1.few (n0+2*k)∧Vz M1 vm∧c1.Ok):=HFW
   replace hR:stepI nf M1 c1 vm se=R:=hR
   have SA:∀ ix,Hid (ix=c1.pc / 4%8∨c1.bad)→∀ w1,IsMd w1 D nf M1→Calls pQ 7 #[.agg #[π (some ⟨D.p,0,none⟩),π (some ⟨D.t,0,none⟩),gu D.v],.agg (cpA c1),U κ vm,U κ se,U κ ix] w1 fun e w'=>e=ρ (τ #[.agg (cpA R.2.1),.agg (trL R.2.2)])∧Fr D.s w1 w'∧IsMd w' D nf R.1:=by
    intro ix hix w1 hw1
    have q:=dstep_any w1 D nf M1 c1 HFW.out.2.2 vm se ix hw1 HFW.out.1 (by have:=HKM.out;have:=HMM.out.1;have:=HN0.out;omega) HFW.out.2.1
    have e:dx nf M1 c1 vm se ix=R:=by
     rcases hix.out with rfl | hb
     ·exact hR
     ·rw[wt hb];exact hR
    rw[e] at q
    exact q
   have yp:=pc.pc
   clear hR hS
   obtain ⟨Mx,cx,Tx⟩:=R
   replace HQ:Hid (mz nf M c vm se (k+1)=(Mx,cx)∧vv nf M c vm se k=Tx):=HQ
   obtain ⟨m0,m1,m2⟩:wr.cell? ⟨gm,0,none⟩=some (π (some ⟨D.p,0,none⟩))∧wr.cell? ⟨gm,1,none⟩=some (π (some ⟨D.t,0,none⟩))∧wr.cell? ⟨gm,2,none⟩=some (gu D.v):=⟨pm.cell 0,pm.cell 1,pm.cell 2⟩
   by_cases hq:(wrap64 (c1.pc.tdiv 4)).tmod 8<0
   ·have u4:decide ((wrap64 (c1.pc.tdiv 4)).tmod 8<0)=true:=decide_eq_true hq
    have HIY:∀ ix:Int,Hid (ix=c1.pc / 4%8∨c1.bad):=fun ix=>Or.inr (by
     by_cases hb:c1.bad
     ·exact hb
     ·have hp:0≤c1.pc∧c1.pc≤65535:=by unfold Cp.bad at hb;omega
      rw[ix_eq hp.1 hp.2] at hq
      omega)
    clear hq
    go_upto_region 6 with fail
    clear u4 uk uk2 yp
    go_wp2_with (refine bh rfl 30 _ rfl gc rfl (cpA c1) _ (cq pc) Tryz.underlying30 rfl (bk _) ?_)
    refine(SA _ (HIY _) wr h1).mono ?_
    rintro e v2 ⟨rfl,f2,h2⟩
    clear SA HIY m0 m1 m2 h1
    have ng:∀ g,w.heap.size≤g→¬ D.s g:=fun g hg e=>absurd (HL.out _ (Or.inl e)) (by omega)
    replace pm:=pm.keep f2 (ng _ (by have:=HG.out;omega))
    replace pc:=pc.keep f2 (ng _ (by have:=HG.out;omega))
    replace pr:=pr.keep f2 (ng _ (by have:=HG.out;omega))
    replace pt:=pt.keep f2 (ng _ (by have:=HG.out;omega))
    replace HF:Hid (Fr D.s w v2):=HF.out.trans f2
    clear f2 ng
    have q12:Row ((v2.alloc (ω (cpA zc) 30)).alloc (ω #[U κ 0,U κ 0,U κ 0,U κ 0,U κ 0,U κ 0,β false,U κ 0] 52)) v2.heap.size (cpA zc) 30:=(ba v2 (cpA zc) 30).alloc _
    have q13:Row ((v2.alloc (ω (cpA zc) 30)).alloc (ω #[U κ 0,U κ 0,U κ 0,U κ 0,U κ 0,U κ 0,β false,U κ 0] 52)) (v2.heap.size+1) #[U κ 0,U κ 0,U κ 0,U κ 0,U κ 0,U κ 0,β false,U κ 0] 52:=dq (by simp)
    have q13':=q13.keep (bb _ v2.heap.size (cpA cx)) (fun e=>by have e':v2.heap.size+1=v2.heap.size:=e;omega)
    have lp:(cpA zc).size=(cpA cx).size:=by rw[bj,bj]
    have GG:Hid (Fr bg v2 ((((v2.alloc (ω (cpA zc) 30)).alloc (ω #[U κ 0,U κ 0,U κ 0,U κ 0,U κ 0,U κ 0,β false,U κ 0] 52)).setRow v2.heap.size (cpA cx)).setRow (v2.heap.size+1) (trL Tx))∧Row ((((v2.alloc (ω (cpA zc) 30)).alloc (ω #[U κ 0,U κ 0,U κ 0,U κ 0,U κ 0,U κ 0,β false,U κ 0] 52)).setRow v2.heap.size (cpA cx)).setRow (v2.heap.size+1) (trL Tx)) v2.heap.size (cpA cx) 30∧Row ((((v2.alloc (ω (cpA zc) 30)).alloc (ω #[U κ 0,U κ 0,U κ 0,U κ 0,U κ 0,U κ 0,β false,U κ 0] 52)).setRow v2.heap.size (cpA cx)).setRow (v2.heap.size+1) (trL Tx)) (v2.heap.size+1) (trL Tx) 52):=
     ⟨((((Fr.refl bg v2).alloc _).alloc _).newer (bb _ v2.heap.size (cpA cx)) (Nat.le_refl _)).newer (bb _ (v2.heap.size+1) (trL Tx)) (Nat.le_succ _),(q12.setRow).keep (bb _ (v2.heap.size+1) _) (fun e=>by have e':v2.heap.size=v2.heap.size+1:=e;omega),q13'.setRow⟩
    clear q13
    go_upto_region 7 with(first | refine wpList_store_row rfl 30 _ _ rfl v2.heap.size (cpA cx) rfl rfl 30 (cpA zc) q12 (bk cx) lp (bw cx) ?_ | refine wpList_store_row rfl 52 _ _ rfl (v2.heap.size+1) (trL Tx) rfl rfl 52 _ q13' bn rfl (jr Tx) ?_)
    clear q12 q13' lp
    obtain ⟨g3,rp,rq⟩:=GG.out
    clear GG
    have HV:Hid (gt<v2.heap.size):=pt.lt
    obtain ⟨v4,hv4⟩:∃ q,q=(((v2.alloc (ω (cpA zc) 30)).alloc (ω #[U κ 0,U κ 0,U κ 0,U κ 0,U κ 0,U κ 0,β false,U κ 0] 52)).setRow v2.heap.size (cpA cx)).setRow (v2.heap.size+1) (trL Tx):=⟨_,rfl⟩
    rw[←hv4] at g3 rp rq ⊢
    clear hv4
    obtain ⟨gp,hgp⟩:∃ q,q=v2.heap.size:=⟨_,rfl⟩
    obtain ⟨gq,hgq⟩:∃ q,q=v2.heap.size+1:=⟨_,rfl⟩
    rw[←hgq] at rq ⊢
    rw[←hgp] at rp ⊢
    have HPQ:Hid (gt<gp∧gq=gp+1):=(show _∧_ by have:=HV.out;omega)
    clear hgp hgq HV
    replace pm:=pm.keep g3 (fun h=>h)
    replace pc:=pc.keep g3 (fun h=>h)
    replace pr:=pr.keep g3 (fun h=>h)
    replace pt:=pt.keep g3 (fun h=>h)
    have h4:=h2.keep0 g3
    replace HF:Hid (Fr D.s w v4):=HF.out.trans (di g3)
    clear g3 h2
    have uc:v4.cell? ⟨gq,0,none⟩=some (U κ Tx.ca):=rq.cell 0
    have nn:∀ (b:Nat) (j:Nat),j≠b→¬ at' b j:=fun b j h e=>h e
    by_cases ht:Tx.ca=0
    ·have ut:(Tx.ca != 0)=false:=by simpa using ht
     have HTZ:Hid (Tx.ca=0):=ht
     clear ht
     have lo:(cpA c1).size=(cpA cx).size:=by rw[bj,bj]
     have HN:Hid (Dq w (v4.setRow gc (cpA cx)) D nf gm gc gr gt M c vm se (k+1)):=by
      have hg:=HG.out
      refine ⟨bp HF.out (g:=gc) (by omega) _,pm.keep (bb _ gc _) (nn _ _ (by omega)),?_,pr.keep (bb _ gc _) (nn _ _ (by omega)),pt.keep (bb _ gc _) (nn _ _ (by omega)),?_,?_⟩
      ·rw[HQ.out.1];exact pc.setRow
      ·rw[HQ.out.1];exact h4.past (bb _ gc _) (fun k hk=>by have:=HL.out k hk;omega)
      ·intro j hj
       by_cases e:j<k
       ·exact HT.out j e
       ·obtain rfl:j=k:=by omega
        rw[HQ.out.2];exact HTZ.out
     have hk9:k<1000:=by have:=HKM.out;have:=HMM.out.1;omega
     clear pm pr pt h4 rq
     go_wp2_with (first | refine bh rfl 30 _ rfl gp rfl (cpA cx) _ (cq rp) Tryz.underlying30 rfl (bk _) ?_ | refine wpList_store_row rfl 30 _ _ rfl gc (cpA cx) rfl rfl 30 (cpA c1) pc (bk cx) lo (bw cx) ?_)
     go_roundw
     case rel=>exact ⟨k+1,by have:=HKM.out;omega,by go_num,HN⟩
     case measure=>have:=HKM.out;simp[intOf];omega
    ·have ut:(Tx.ca != 0)=true:=by simpa using ht
     have HTZ:Hid (Tx.ca≠0):=ht
     clear ht
     go_upto_region 8 with fail
     clear uc ut
     have b2:=rp.drew.keep (bb _ gr (cpA cx)) (nn _ _ (by have:=HG.out;have:=HPQ.out;omega))
     have b5:=rq.drew.keep (bb _ gr (cpA cx)) (nn _ _ (by have:=HG.out;have:=HPQ.out;omega))
     have b4:=pt.drew.keep (bb _ gr (cpA cx)) (nn _ _ (by have:=HG.out;omega))
     have e2:=b2.keep (bb _ gt (trL Tx)) (nn _ _ (by have:=HG.out;have:=HPQ.out;omega))
     have e5:=b5.keep (bb _ gt (trL Tx)) (nn _ _ (by have:=HG.out;have:=HPQ.out;omega))
     have eZ:Row (((v4.drew).setRow gr (cpA cx)).setRow gt (trL Tx)) gr (cpA cx) 30:=(pr.drew.setRow).keep (bb _ gt (trL Tx)) (nn _ _ (by have:=HG.out;omega))
     have eT:Row (((v4.drew).setRow gr (cpA cx)).setRow gt (trL Tx)) gt (trL Tx) 52:=b4.setRow
     have HE2:Hid (Fr D.s w (((v4.drew).setRow gr (cpA cx)).setRow gt (trL Tx))∧IsMd (((v4.drew).setRow gr (cpA cx)).setRow gt (trL Tx)) D nf Mx):=⟨bp (bp HF.out.drew (g:=gr) (by have:=HG.out;omega) _) (g:=gt) (by have:=HG.out;omega) _,(h4.drew.past (bb _ gr _) (fun k hk=>by have:=HL.out k hk;have:=HG.out;omega)).past (bb _ gt _) (fun k hk=>by have:=HL.out k hk;have:=HG.out;omega)⟩
     clear h4
     refine wp_region_held (S:=fun w'=>Row w' gp (cpA cx) 30∧Row w' gq (trL Tx) 52) (by kernel_rfl) ?_
     change wpAnyH _ _ _ _ _ _ _ _ (World.drew _)
     refine wpAnyH_take (i:=0) (v:=.agg (cpL cx).toArray) rfl (by kernel_rfl) (by kernel_rfl) (by kernel_rfl) (fun _ _ _ h=>h) (yieldsIf_load_mid (by kernel_rfl) 30 _ rfl gp 0 rfl (cpL cx) _ (fun _ h=>dc h.1) Tryz.underlying30 rfl (dw cx)) ⟨rp.drew,rq.drew⟩ ?_
     show wpAnyH _ _ _ _ _ _ _ (Act.put _ (some 44) _) _
     simp only[Act.put,sA,sB,sC]
     refine wpAnyH_take (i:=1) (v:=.agg ([U κ Tx.ca,U κ Tx.nu,U κ Tx.ad,U κ Tx.f.k,U κ Tx.f.s,U κ Tx.f.l,β Tx.f.wk,U κ Tx.f.p]).toArray) rfl (by kernel_rfl) (by kernel_rfl) (by kernel_rfl) (fun _ _ _ h=>h) (yieldsIf_load_mid (by kernel_rfl) 52 _ rfl gq 0 rfl ([U κ Tx.ca,U κ Tx.nu,U κ Tx.ad,U κ Tx.f.k,U κ Tx.f.s,U κ Tx.f.l,β Tx.f.wk,U κ Tx.f.p]) _ (fun _ h=>jn h.2) Tryz.underlying52 rfl bn) ⟨rp.drew,rq.drew⟩ ?_
     show wpAnyH _ _ _ _ _ _ _ (Act.put _ (some 45) _) _
     simp only[Act.put,sA,sB,sC]
     refine tkQ 2 (v:=?_) rfl (by kernel_rfl) (fun _ _ _ h=>h) (fun w hS=>?_) ⟨rp.drew,rq.drew⟩ ?_
     rotate_left
     ·go_simp
      try with_reducible rfl
     show wpAnyH _ _ _ _ _ _ _ (Act.put _ (some 46) _) _
     simp only[Act.put,sA,sB,sC]
     refine wpAnyH_all (rs:=[3]) (by kernel_rfl) (by simp) ?_
     intro i hi
     obtain rfl:i=3:=by simpa using hi
     clear hi
     refine ck rfl (by kernel_rfl) ?_
     refine wp_store_row 30 _ _ rfl gr (cpA cx) rfl rfl 30 _ pr.drew (bk cx) (bj cx).symm (bw cx) ?_
     refine ⟨⟨b2,b5⟩,?_⟩
     show wpAnyH _ _ _ _ _ _ _ _ _
     refine wpAnyH_all (rs:=[4]) (by kernel_rfl) (by simp) ?_
     intro i hi
     obtain rfl:i=4:=by simpa using hi
     clear hi
     refine ck rfl (by kernel_rfl) ?_
     refine wp_store_row 52 _ _ rfl gt (trL Tx) rfl rfl 52 _ b4 bn rfl (jr Tx) ?_
     refine ⟨⟨e2,e5⟩,?_⟩
     show wpAnyH _ _ _ _ _ _ _ _ _
     refine tkQ 5 (v:=?_) rfl (by kernel_rfl) (fun _ _ _ h=>h) (fun w hS=>?_) ⟨e2,e5⟩ ?_
     rotate_left
     ·go_simp
      try with_reducible rfl
     show wpAnyH _ _ _ _ _ _ _ (Act.put _ (some 12) _) _
     go_simp
     refine wpAnyH_done (by kernel_rfl) ?_ _
     go_wp2_with fail
     refine bodyPost_ret (pz rfl rfl rfl eZ (bj _) eT rfl) rfl ?_
     refine ⟨k,Mx,cx,Tx,rfl,HE2.out.1,HE2.out.2,HT.out,Or.inr ⟨HKM.out,?_,?_,?_,?_⟩⟩
     ·rw[HQ.out.2];exact HTZ.out
     ·rw[HQ.out.1]
     ·rw[HQ.out.1]
     ·exact HQ.out.2.symm
   ·have u4:decide ((wrap64 (c1.pc.tdiv 4)).tmod 8<0)=false:=decide_eq_false hq
    have HIZ:Hid ((wrap64 (c1.pc.tdiv 4)).tmod 8=c1.pc / 4%8∨c1.bad):=by
     show _∨_
     by_cases hb:c1.bad
     ·exact Or.inr hb
     ·have hp:0≤c1.pc∧c1.pc≤65535:=by unfold Cp.bad at hb;omega
      exact Or.inl (ix_eq hp.1 hp.2)
    clear hq
    go_upto_region 6 with fail
    clear u4 uk uk2 yp
    obtain ⟨ix,hix⟩:∃ q,q=(wrap64 (c1.pc.tdiv 4)).tmod 8:=⟨_,rfl⟩
    rw[←hix] at HIZ ⊢
    clear hix
    have HIY:=HIZ
    clear HIZ
    go_wp2_with (refine bh rfl 30 _ rfl gc rfl (cpA c1) _ (cq pc) Tryz.underlying30 rfl (bk _) ?_)
    refine(SA _ HIY wr h1).mono ?_
    rintro e v2 ⟨rfl,f2,h2⟩
    clear SA HIY m0 m1 m2 h1
    have ng:∀ g,w.heap.size≤g→¬ D.s g:=fun g hg e=>absurd (HL.out _ (Or.inl e)) (by omega)
    replace pm:=pm.keep f2 (ng _ (by have:=HG.out;omega))
    replace pc:=pc.keep f2 (ng _ (by have:=HG.out;omega))
    replace pr:=pr.keep f2 (ng _ (by have:=HG.out;omega))
    replace pt:=pt.keep f2 (ng _ (by have:=HG.out;omega))
    replace HF:Hid (Fr D.s w v2):=HF.out.trans f2
    clear f2 ng
    have q12:Row ((v2.alloc (ω (cpA zc) 30)).alloc (ω #[U κ 0,U κ 0,U κ 0,U κ 0,U κ 0,U κ 0,β false,U κ 0] 52)) v2.heap.size (cpA zc) 30:=(ba v2 (cpA zc) 30).alloc _
    have q13:Row ((v2.alloc (ω (cpA zc) 30)).alloc (ω #[U κ 0,U κ 0,U κ 0,U κ 0,U κ 0,U κ 0,β false,U κ 0] 52)) (v2.heap.size+1) #[U κ 0,U κ 0,U κ 0,U κ 0,U κ 0,U κ 0,β false,U κ 0] 52:=dq (by simp)
    have q13':=q13.keep (bb _ v2.heap.size (cpA cx)) (fun e=>by have e':v2.heap.size+1=v2.heap.size:=e;omega)
    have lp:(cpA zc).size=(cpA cx).size:=by rw[bj,bj]
    have GG:Hid (Fr bg v2 ((((v2.alloc (ω (cpA zc) 30)).alloc (ω #[U κ 0,U κ 0,U κ 0,U κ 0,U κ 0,U κ 0,β false,U κ 0] 52)).setRow v2.heap.size (cpA cx)).setRow (v2.heap.size+1) (trL Tx))∧Row ((((v2.alloc (ω (cpA zc) 30)).alloc (ω #[U κ 0,U κ 0,U κ 0,U κ 0,U κ 0,U κ 0,β false,U κ 0] 52)).setRow v2.heap.size (cpA cx)).setRow (v2.heap.size+1) (trL Tx)) v2.heap.size (cpA cx) 30∧Row ((((v2.alloc (ω (cpA zc) 30)).alloc (ω #[U κ 0,U κ 0,U κ 0,U κ 0,U κ 0,U κ 0,β false,U κ 0] 52)).setRow v2.heap.size (cpA cx)).setRow (v2.heap.size+1) (trL Tx)) (v2.heap.size+1) (trL Tx) 52):=
     ⟨((((Fr.refl bg v2).alloc _).alloc _).newer (bb _ v2.heap.size (cpA cx)) (Nat.le_refl _)).newer (bb _ (v2.heap.size+1) (trL Tx)) (Nat.le_succ _),(q12.setRow).keep (bb _ (v2.heap.size+1) _) (fun e=>by have e':v2.heap.size=v2.heap.size+1:=e;omega),q13'.setRow⟩
    clear q13
    go_upto_region 7 with(first | refine wpList_store_row rfl 30 _ _ rfl v2.heap.size (cpA cx) rfl rfl 30 (cpA zc) q12 (bk cx) lp (bw cx) ?_ | refine wpList_store_row rfl 52 _ _ rfl (v2.heap.size+1) (trL Tx) rfl rfl 52 _ q13' bn rfl (jr Tx) ?_)
    clear q12 q13' lp
    obtain ⟨g3,rp,rq⟩:=GG.out
    clear GG
    have HV:Hid (gt<v2.heap.size):=pt.lt
    obtain ⟨v4,hv4⟩:∃ q,q=(((v2.alloc (ω (cpA zc) 30)).alloc (ω #[U κ 0,U κ 0,U κ 0,U κ 0,U κ 0,U κ 0,β false,U κ 0] 52)).setRow v2.heap.size (cpA cx)).setRow (v2.heap.size+1) (trL Tx):=⟨_,rfl⟩
    rw[←hv4] at g3 rp rq ⊢
    clear hv4
    obtain ⟨gp,hgp⟩:∃ q,q=v2.heap.size:=⟨_,rfl⟩
    obtain ⟨gq,hgq⟩:∃ q,q=v2.heap.size+1:=⟨_,rfl⟩
    rw[←hgq] at rq ⊢
    rw[←hgp] at rp ⊢
    have HPQ:Hid (gt<gp∧gq=gp+1):=(show _∧_ by have:=HV.out;omega)
    clear hgp hgq HV
    replace pm:=pm.keep g3 (fun h=>h)
    replace pc:=pc.keep g3 (fun h=>h)
    replace pr:=pr.keep g3 (fun h=>h)
    replace pt:=pt.keep g3 (fun h=>h)
    have h4:=h2.keep0 g3
    replace HF:Hid (Fr D.s w v4):=HF.out.trans (di g3)
    clear g3 h2
    have uc:v4.cell? ⟨gq,0,none⟩=some (U κ Tx.ca):=rq.cell 0
    have nn:∀ (b:Nat) (j:Nat),j≠b→¬ at' b j:=fun b j h e=>h e
    by_cases ht:Tx.ca=0
    ·have ut:(Tx.ca != 0)=false:=by simpa using ht
     have HTZ:Hid (Tx.ca=0):=ht
     clear ht
     have lo:(cpA c1).size=(cpA cx).size:=by rw[bj,bj]
     have HN:Hid (Dq w (v4.setRow gc (cpA cx)) D nf gm gc gr gt M c vm se (k+1)):=by
      have hg:=HG.out
      refine ⟨bp HF.out (g:=gc) (by omega) _,pm.keep (bb _ gc _) (nn _ _ (by omega)),?_,pr.keep (bb _ gc _) (nn _ _ (by omega)),pt.keep (bb _ gc _) (nn _ _ (by omega)),?_,?_⟩
      ·rw[HQ.out.1];exact pc.setRow
      ·rw[HQ.out.1];exact h4.past (bb _ gc _) (fun k hk=>by have:=HL.out k hk;omega)
      ·intro j hj
       by_cases e:j<k
       ·exact HT.out j e
       ·obtain rfl:j=k:=by omega
        rw[HQ.out.2];exact HTZ.out
     have hk9:k<1000:=by have:=HKM.out;have:=HMM.out.1;omega
     clear pm pr pt h4 rq
     go_wp2_with (first | refine bh rfl 30 _ rfl gp rfl (cpA cx) _ (cq rp) Tryz.underlying30 rfl (bk _) ?_ | refine wpList_store_row rfl 30 _ _ rfl gc (cpA cx) rfl rfl 30 (cpA c1) pc (bk cx) lo (bw cx) ?_)
     go_roundw
     case rel=>exact ⟨k+1,by have:=HKM.out;omega,by go_num,HN⟩
     case measure=>have:=HKM.out;simp[intOf];omega
    ·have ut:(Tx.ca != 0)=true:=by simpa using ht
     have HTZ:Hid (Tx.ca≠0):=ht
     clear ht
     go_upto_region 8 with fail
     clear uc ut
     have b2:=rp.drew.keep (bb _ gr (cpA cx)) (nn _ _ (by have:=HG.out;have:=HPQ.out;omega))
     have b5:=rq.drew.keep (bb _ gr (cpA cx)) (nn _ _ (by have:=HG.out;have:=HPQ.out;omega))
     have b4:=pt.drew.keep (bb _ gr (cpA cx)) (nn _ _ (by have:=HG.out;omega))
     have e2:=b2.keep (bb _ gt (trL Tx)) (nn _ _ (by have:=HG.out;have:=HPQ.out;omega))
     have e5:=b5.keep (bb _ gt (trL Tx)) (nn _ _ (by have:=HG.out;have:=HPQ.out;omega))
     have eZ:Row (((v4.drew).setRow gr (cpA cx)).setRow gt (trL Tx)) gr (cpA cx) 30:=(pr.drew.setRow).keep (bb _ gt (trL Tx)) (nn _ _ (by have:=HG.out;omega))
     have eT:Row (((v4.drew).setRow gr (cpA cx)).setRow gt (trL Tx)) gt (trL Tx) 52:=b4.setRow
     have HE2:Hid (Fr D.s w (((v4.drew).setRow gr (cpA cx)).setRow gt (trL Tx))∧IsMd (((v4.drew).setRow gr (cpA cx)).setRow gt (trL Tx)) D nf Mx):=⟨bp (bp HF.out.drew (g:=gr) (by have:=HG.out;omega) _) (g:=gt) (by have:=HG.out;omega) _,(h4.drew.past (bb _ gr _) (fun k hk=>by have:=HL.out k hk;have:=HG.out;omega)).past (bb _ gt _) (fun k hk=>by have:=HL.out k hk;have:=HG.out;omega)⟩
     clear h4
     refine wp_region_held (S:=fun w'=>Row w' gp (cpA cx) 30∧Row w' gq (trL Tx) 52) (by kernel_rfl) ?_
     change wpAnyH _ _ _ _ _ _ _ _ (World.drew _)
     refine wpAnyH_take (i:=0) (v:=.agg (cpL cx).toArray) rfl (by kernel_rfl) (by kernel_rfl) (by kernel_rfl) (fun _ _ _ h=>h) (yieldsIf_load_mid (by kernel_rfl) 30 _ rfl gp 0 rfl (cpL cx) _ (fun _ h=>dc h.1) Tryz.underlying30 rfl (dw cx)) ⟨rp.drew,rq.drew⟩ ?_
     show wpAnyH _ _ _ _ _ _ _ (Act.put _ (some 44) _) _
     simp only[Act.put,sA,sB,sC]
     refine wpAnyH_take (i:=1) (v:=.agg ([U κ Tx.ca,U κ Tx.nu,U κ Tx.ad,U κ Tx.f.k,U κ Tx.f.s,U κ Tx.f.l,β Tx.f.wk,U κ Tx.f.p]).toArray) rfl (by kernel_rfl) (by kernel_rfl) (by kernel_rfl) (fun _ _ _ h=>h) (yieldsIf_load_mid (by kernel_rfl) 52 _ rfl gq 0 rfl ([U κ Tx.ca,U κ Tx.nu,U κ Tx.ad,U κ Tx.f.k,U κ Tx.f.s,U κ Tx.f.l,β Tx.f.wk,U κ Tx.f.p]) _ (fun _ h=>jn h.2) Tryz.underlying52 rfl bn) ⟨rp.drew,rq.drew⟩ ?_
     show wpAnyH _ _ _ _ _ _ _ (Act.put _ (some 45) _) _
     simp only[Act.put,sA,sB,sC]
     refine tkQ 2 (v:=?_) rfl (by kernel_rfl) (fun _ _ _ h=>h) (fun w hS=>?_) ⟨rp.drew,rq.drew⟩ ?_
     rotate_left
     ·go_simp
      try with_reducible rfl
     show wpAnyH _ _ _ _ _ _ _ (Act.put _ (some 46) _) _
     simp only[Act.put,sA,sB,sC]
     refine wpAnyH_all (rs:=[3]) (by kernel_rfl) (by simp) ?_
     intro i hi
     obtain rfl:i=3:=by simpa using hi
     clear hi
     refine ck rfl (by kernel_rfl) ?_
     refine wp_store_row 30 _ _ rfl gr (cpA cx) rfl rfl 30 _ pr.drew (bk cx) (bj cx).symm (bw cx) ?_
     refine ⟨⟨b2,b5⟩,?_⟩
     show wpAnyH _ _ _ _ _ _ _ _ _
     refine wpAnyH_all (rs:=[4]) (by kernel_rfl) (by simp) ?_
     intro i hi
     obtain rfl:i=4:=by simpa using hi
     clear hi
     refine ck rfl (by kernel_rfl) ?_
     refine wp_store_row 52 _ _ rfl gt (trL Tx) rfl rfl 52 _ b4 bn rfl (jr Tx) ?_
     refine ⟨⟨e2,e5⟩,?_⟩
     show wpAnyH _ _ _ _ _ _ _ _ _
     refine tkQ 5 (v:=?_) rfl (by kernel_rfl) (fun _ _ _ h=>h) (fun w hS=>?_) ⟨e2,e5⟩ ?_
     rotate_left
     ·go_simp
      try with_reducible rfl
     show wpAnyH _ _ _ _ _ _ _ (Act.put _ (some 12) _) _
     go_simp
     refine wpAnyH_done (by kernel_rfl) ?_ _
     go_wp2_with fail
     refine bodyPost_ret (pz rfl rfl rfl eZ (bj _) eT rfl) rfl ?_
     refine ⟨k,Mx,cx,Tx,rfl,HE2.out.1,HE2.out.2,HT.out,Or.inr ⟨HKM.out,?_,?_,?_,?_⟩⟩
     ·rw[HQ.out.2];exact HTZ.out
     ·rw[HQ.out.1]
     ·rw[HQ.out.1]
     ·exact HQ.out.2.symm
  ·have HKM:Hid (k=mm):=(show k=mm by omega)
   obtain ⟨HFr,pm,pc,pr,pt,h1,HTT⟩:=RR.out
   have HT:Hid (∀ j,j<k→(vv nf M c vm se j).ca=0):=HTT
   clear RR hk hlt HTT pm
   obtain ⟨M1,hM1⟩:∃ q,q=(mz nf M c vm se k).1:=⟨_,rfl⟩
   obtain ⟨c1,hc1⟩:∃ q,q=(mz nf M c vm se k).2:=⟨_,rfl⟩
   rw[←hM1] at h1
   rw[←hc1] at pc
   have HE:Hid (M1=(mz nf M c vm se k).1∧c1=(mz nf M c vm se k).2):=⟨hM1,hc1⟩
   clear hM1 hc1
   have nrt:¬ at' gr gt:=fun e=>by have e':gt=gr:=e;have:=HG.out;omega
   have ntr:¬ at' gt gr:=fun e=>by have e':gr=gt:=e;have:=HG.out;omega
   have pt1:=pt.keep (bb wr gr (cpA c1)) nrt
   have qt:=pt1.setRow (A:=#[U κ 0,U κ 0,U κ 0,U κ 0,U κ 0,U κ 0,β false,U κ 0])
   have qr:=(pr.setRow (A:=cpA c1)).keep (bb _ gt #[U κ 0,U κ 0,U κ 0,U κ 0,U κ 0,U κ 0,β false,U κ 0]) ntr
   have HE2:Hid (Fr D.s w ((wr.setRow gr (cpA c1)).setRow gt #[U κ 0,U κ 0,U κ 0,U κ 0,U κ 0,U κ 0,β false,U κ 0])∧IsMd ((wr.setRow gr (cpA c1)).setRow gt #[U κ 0,U κ 0,U κ 0,U κ 0,U κ 0,U κ 0,β false,U κ 0]) D nf M1):=⟨bp (bp HFr (g:=gr) (by have:=HG.out;omega) _) (g:=gt) (by have:=HG.out;omega) _,(h1.past (bb _ gr _) (fun k hk=>by have:=HL.out k hk;have:=HG.out;omega)).past (bb _ gt _) (fun k hk=>by have:=HL.out k hk;have:=HG.out;omega)⟩
   clear HFr h1
   have hcs:¬ ((k:Int)<many)∨((k:Int)<many∧¬ ((k:Int)<1000)):=by
    have h1:=HMM.out.2.2
    have h2:=HKM.out
    omega
   rcases hcs with h | ⟨h,h'⟩
   ·have uk:decide ((k:Int)<many)=false:=decide_eq_false h
    clear h
    go_wp2_with (first | refine bh rfl 30 _ rfl gc rfl (cpA c1) _ (cq pc) Tryz.underlying30 rfl (bk _) ?_ | refine wpList_store_row rfl 30 _ _ rfl gr (cpA c1) rfl rfl 30 _ pr (bk _) (bj _).symm (bw _) ?_ | refine wpList_store_row rfl 52 _ _ rfl gt #[U κ 0,U κ 0,U κ 0,U κ 0,U κ 0,U κ 0,β false,U κ 0] rfl rfl 52 _ pt1 bn rfl (by simp[Value.oneCell']) ?_)
    refine bodyPost_ret (pz rfl rfl rfl qr (bj _) qt rfl) rfl ?_
    exact ⟨k,M1,c1,_root_.Go.Proofs.YtibhbjbpodlpiaaGreat.t0,rfl,HE2.out.1,HE2.out.2,HT.out,Or.inl ⟨HKM.out,HE.out.1,HE.out.2,rfl⟩⟩
   ·have uk:decide ((k:Int)<many)=true:=decide_eq_true h
    have uk2:decide ((k:Int)<1000)=false:=decide_eq_false h'
    clear h h'
    go_wp2_with (first | refine bh rfl 30 _ rfl gc rfl (cpA c1) _ (cq pc) Tryz.underlying30 rfl (bk _) ?_ | refine wpList_store_row rfl 30 _ _ rfl gr (cpA c1) rfl rfl 30 _ pr (bk _) (bj _).symm (bw _) ?_ | refine wpList_store_row rfl 52 _ _ rfl gt #[U κ 0,U κ 0,U κ 0,U κ 0,U κ 0,U κ 0,β false,U κ 0] rfl rfl 52 _ pt1 bn rfl (by simp[Value.oneCell']) ?_)
    refine bodyPost_ret (pz rfl rfl rfl qr (bj _) qt rfl) rfl ?_
    exact ⟨k,M1,c1,_root_.Go.Proofs.YtibhbjbpodlpiaaGreat.t0,rfl,HE2.out.1,HE2.out.2,HT.out,Or.inl ⟨HKM.out,HE.out.1,HE.out.2,rfl⟩⟩
end Go.Proofs.YtibhbjbpodlpiaaGreat
