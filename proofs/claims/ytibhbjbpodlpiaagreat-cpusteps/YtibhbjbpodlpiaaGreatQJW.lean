/-
  Contracts over the translation. No statement is proved here.
-/
import Derived.Test.YtibhbjbpodlpiaaGreatQCdS
import Derived.Test.YtibhbjbpodlpiaaGreatQIsaRef
set_option maxRecDepth 100000
set_option maxHeartbeats 8000000
namespace Go.Proofs.YtibhbjbpodlpiaaGreat
open Go.RowKit
open Go.Value renaming int → U, bool → β, pointer → π, tuple → τ
open Go.IntKind renaming i64 → κ, u32 → μ
open Go.Obj renaming cells → ω
open Go.Ending renaming returned → ρ
open Go.Proofs.Tryz renaming prog → pQ
open List renaming setIfInBounds_toArray → sA, set_cons_succ → sB, set_cons_zero → sC
theorem dstp_b1 (w:World) (D:Bd) (nf:Nat) (M:Mc) (c:Cp) (h:IsMd w D nf M) (vm se ix:Int) (hq:c.pc%4≠0) :
  Calls pQ 7 #[D.a,.agg (cpA c),U κ vm,U κ se,U κ ix] w fun e w'=>e=ρ (τ #[.agg (cpA c),.agg (trL ⟨4,0,c.pc,f0⟩)])∧Fr D.s w w'∧IsMd w' D nf M:=by
 unfold Bd.a
 have HL:Hid (∀ k,D.y k→k<w.heap.size):=h.lt
 obtain ⟨v0,gm,gc,gr,gt,hv0,hgm,hgc,hgr,hgt,HG,pm,pc,pr,pt,f0⟩:=lc w D c
 go_enter Tryz.func7,Tryz.ntmps7
 go_upto_region 1 with fail
 rw[←hv0,←hgt,←hgr,←hgc,←hgm]
 clear hv0 hgm hgc hgr hgt
 have h1:=h.keep0 f0
 have f1:Fr D.s w v0:=di f0
 clear h f0
 have yp:=pc.pc
 have u3:c.pc.tmod 4≠0:=fun e=>hq (Int.emod_eq_zero_of_dvd (Int.dvd_of_tmod_eq_zero e))
 have u4:(c.pc.tmod 4 != 0)=true:=by simp[u3]
 clear u3
 go_upto_region 2 with fail
 clear yp
 have nrt:¬ at' gr gt:=fun e=>by have e':gt=gr:=e;have:=HG.out;omega
 have ntr:¬ at' gt gr:=fun e=>by have e':gr=gt:=e;have:=HG.out;omega
 have pt1:=pt.keep (bb v0 gr (cpA (c))) nrt
 have qt:=pt1.setRow (A:=#[U κ 4,U κ 0,U κ c.pc,U κ 0,U κ 0,U κ 0,β false,U κ 0])
 have qr:=(pr.setRow (A:=cpA (c))).keep (bb _ gt #[U κ 4,U κ 0,U κ c.pc,U κ 0,U κ 0,U κ 0,β false,U κ 0]) ntr
 have HE:Hid (Fr D.s w ((v0.setRow gr (cpA (c))).setRow gt #[U κ 4,U κ 0,U κ c.pc,U κ 0,U κ 0,U κ 0,β false,U κ 0])∧IsMd ((v0.setRow gr (cpA (c))).setRow gt #[U κ 4,U κ 0,U κ c.pc,U κ 0,U κ 0,U κ 0,β false,U κ 0]) D nf _):=⟨bp (bp f1 (g:=gr) (by have:=HG.out;omega) _) (g:=gt) (by have:=HG.out;omega) _,(h1.past (bb _ gr _) (fun k hk=>by have:=HL.out k hk;have:=HG.out;omega)).past (bb _ gt _) (fun k hk=>by have:=HL.out k hk;have:=HG.out;omega)⟩
 have pc1:=pc.keep (bb v0 gr (cpA c)) (fun e=>by have e':gc=gr:=e;have:=HG.out;omega)
 have pc3:=pc1.keep (bb _ gt #[U κ 4,U κ 0,U κ c.pc,U κ 0,U κ 0,U κ 0,β false,U κ 0]) (fun e=>by have e':gc=gt:=e;have:=HG.out;omega)
 refine wp_region_held (S:=fun w'=>Row w' gc (cpA c) 30) (by kernel_rfl) ?_
 change wpAnyH _ _ _ _ _ _ _ _ (World.drew _)
 refine wpAnyH_take (i:=0) (v:=.agg (cpL c).toArray) rfl (by kernel_rfl) (by kernel_rfl) (by kernel_rfl) (fun _ _ _ h=>h) (yieldsIf_load_mid (by kernel_rfl) 30 _ rfl gc 0 rfl (cpL c) _ (fun _ h=>dc h) Tryz.underlying30 rfl (dw c)) pc.drew ?_
 show wpAnyH _ _ _ _ _ _ _ (Act.put _ (some 33) _) _
 simp only[Act.put,sA,sB,sC]
 refine tkQ 1 (v:=?_) rfl (by kernel_rfl) (fun _ _ _ h=>h) (fun w hS=>?_) pc.drew ?_
 rotate_left
 ·go_simp
  try with_reducible rfl
 show wpAnyH _ _ _ _ _ _ _ (Act.put _ (some 34) _) _
 simp only[Act.put,sA,sB,sC]
 refine tkQ 2 (v:=?_) rfl (by kernel_rfl) (fun _ _ _ h=>h) (fun w hS=>?_) pc.drew ?_
 rotate_left
 ·have yp:=hS.pc;go_simp
  try with_reducible rfl
 show wpAnyH _ _ _ _ _ _ _ (Act.put _ (some 35) _) _
 simp only[Act.put,sA,sB,sC]
 refine tkQ 3 (v:=?_) rfl (by kernel_rfl) (fun _ _ _ h=>h) (fun w hS=>?_) pc.drew ?_
 rotate_left
 ·go_simp
  try with_reducible rfl
 show wpAnyH _ _ _ _ _ _ _ (Act.put _ (some 36) _) _
 simp only[Act.put,sA,sB,sC]
 refine wpAnyH_all (rs:=[4]) (by kernel_rfl) (by simp) ?_
 intro i hi
 obtain rfl:i=4:=by simpa using hi
 clear hi
 refine ck rfl (by kernel_rfl) ?_
 refine wp_store_row 30 _ _ rfl gr (cpA c) rfl rfl 30 _ pr.drew (bk c) (bj c).symm (bw c) ?_
 refine ⟨pc1.drew,?_⟩
 show wpAnyH _ _ _ _ _ _ _ _ _
 refine wpAnyH_all (rs:=[5]) (by kernel_rfl) (by simp) ?_
 intro i hi
 obtain rfl:i=5:=by simpa using hi
 clear hi
 refine ck rfl (by kernel_rfl) ?_
 refine wp_store_row 52 _ _ rfl gt #[U κ 4,U κ 0,U κ c.pc,U κ 0,U κ 0,U κ 0,β false,U κ 0] rfl rfl 52 _ pt1.drew bn rfl (by simp[Value.oneCell']) ?_
 refine ⟨pc3.drew,?_⟩
 show wpAnyH _ _ _ _ _ _ _ _ _
 refine wpAnyH_done (by kernel_rfl) ?_ _
 go_wp2_with fail
 refine bodyPost_ret (d8 rfl rfl rfl qr.drew (bj _) qt.drew rfl) rfl ?_
 exact ⟨rfl,HE.out.1.drew,HE.out.2.drew⟩
theorem dstp_b2 (w:World) (D:Bd) (nf:Nat) (M:Mc) (c:Cp) (h:IsMd w D nf M) (vm se ix:Int) (hq:c.pc%4=0) (hq2:c.pc<0) :
  Calls pQ 7 #[D.a,.agg (cpA c),U κ vm,U κ se,U κ ix] w fun e w'=>e=ρ (τ #[.agg (cpA c),.agg (trL ⟨4,0,c.pc,f0⟩)])∧Fr D.s w w'∧IsMd w' D nf M:=by
 unfold Bd.a
 have HL:Hid (∀ k,D.y k→k<w.heap.size):=h.lt
 obtain ⟨v0,gm,gc,gr,gt,hv0,hgm,hgc,hgr,hgt,HG,pm,pc,pr,pt,f0⟩:=lc w D c
 go_enter Tryz.func7,Tryz.ntmps7
 go_upto_region 1 with fail
 rw[←hv0,←hgt,←hgr,←hgc,←hgm]
 clear hv0 hgm hgc hgr hgt
 have h1:=h.keep0 f0
 have f1:Fr D.s w v0:=di f0
 clear h f0
 have yp:=pc.pc
 have u3:c.pc.tmod 4=0:=Int.tmod_eq_zero_of_dvd (by omega)
 have u1:decide (c.pc<0)=true:=decide_eq_true hq2
 go_upto_region 2 with fail
 clear yp
 have nrt:¬ at' gr gt:=fun e=>by have e':gt=gr:=e;have:=HG.out;omega
 have ntr:¬ at' gt gr:=fun e=>by have e':gr=gt:=e;have:=HG.out;omega
 have pt1:=pt.keep (bb v0 gr (cpA (c))) nrt
 have qt:=pt1.setRow (A:=#[U κ 4,U κ 0,U κ c.pc,U κ 0,U κ 0,U κ 0,β false,U κ 0])
 have qr:=(pr.setRow (A:=cpA (c))).keep (bb _ gt #[U κ 4,U κ 0,U κ c.pc,U κ 0,U κ 0,U κ 0,β false,U κ 0]) ntr
 have HE:Hid (Fr D.s w ((v0.setRow gr (cpA (c))).setRow gt #[U κ 4,U κ 0,U κ c.pc,U κ 0,U κ 0,U κ 0,β false,U κ 0])∧IsMd ((v0.setRow gr (cpA (c))).setRow gt #[U κ 4,U κ 0,U κ c.pc,U κ 0,U κ 0,U κ 0,β false,U κ 0]) D nf _):=⟨bp (bp f1 (g:=gr) (by have:=HG.out;omega) _) (g:=gt) (by have:=HG.out;omega) _,(h1.past (bb _ gr _) (fun k hk=>by have:=HL.out k hk;have:=HG.out;omega)).past (bb _ gt _) (fun k hk=>by have:=HL.out k hk;have:=HG.out;omega)⟩
 have pc1:=pc.keep (bb v0 gr (cpA c)) (fun e=>by have e':gc=gr:=e;have:=HG.out;omega)
 have pc3:=pc1.keep (bb _ gt #[U κ 4,U κ 0,U κ c.pc,U κ 0,U κ 0,U κ 0,β false,U κ 0]) (fun e=>by have e':gc=gt:=e;have:=HG.out;omega)
 refine wp_region_held (S:=fun w'=>Row w' gc (cpA c) 30) (by kernel_rfl) ?_
 change wpAnyH _ _ _ _ _ _ _ _ (World.drew _)
 refine wpAnyH_take (i:=0) (v:=.agg (cpL c).toArray) rfl (by kernel_rfl) (by kernel_rfl) (by kernel_rfl) (fun _ _ _ h=>h) (yieldsIf_load_mid (by kernel_rfl) 30 _ rfl gc 0 rfl (cpL c) _ (fun _ h=>dc h) Tryz.underlying30 rfl (dw c)) pc.drew ?_
 show wpAnyH _ _ _ _ _ _ _ (Act.put _ (some 33) _) _
 simp only[Act.put,sA,sB,sC]
 refine tkQ 1 (v:=?_) rfl (by kernel_rfl) (fun _ _ _ h=>h) (fun w hS=>?_) pc.drew ?_
 rotate_left
 ·go_simp
  try with_reducible rfl
 show wpAnyH _ _ _ _ _ _ _ (Act.put _ (some 34) _) _
 simp only[Act.put,sA,sB,sC]
 refine tkQ 2 (v:=?_) rfl (by kernel_rfl) (fun _ _ _ h=>h) (fun w hS=>?_) pc.drew ?_
 rotate_left
 ·have yp:=hS.pc;go_simp
  try with_reducible rfl
 show wpAnyH _ _ _ _ _ _ _ (Act.put _ (some 35) _) _
 simp only[Act.put,sA,sB,sC]
 refine tkQ 3 (v:=?_) rfl (by kernel_rfl) (fun _ _ _ h=>h) (fun w hS=>?_) pc.drew ?_
 rotate_left
 ·go_simp
  try with_reducible rfl
 show wpAnyH _ _ _ _ _ _ _ (Act.put _ (some 36) _) _
 simp only[Act.put,sA,sB,sC]
 refine wpAnyH_all (rs:=[4]) (by kernel_rfl) (by simp) ?_
 intro i hi
 obtain rfl:i=4:=by simpa using hi
 clear hi
 refine ck rfl (by kernel_rfl) ?_
 refine wp_store_row 30 _ _ rfl gr (cpA c) rfl rfl 30 _ pr.drew (bk c) (bj c).symm (bw c) ?_
 refine ⟨pc1.drew,?_⟩
 show wpAnyH _ _ _ _ _ _ _ _ _
 refine wpAnyH_all (rs:=[5]) (by kernel_rfl) (by simp) ?_
 intro i hi
 obtain rfl:i=5:=by simpa using hi
 clear hi
 refine ck rfl (by kernel_rfl) ?_
 refine wp_store_row 52 _ _ rfl gt #[U κ 4,U κ 0,U κ c.pc,U κ 0,U κ 0,U κ 0,β false,U κ 0] rfl rfl 52 _ pt1.drew bn rfl (by simp[Value.oneCell']) ?_
 refine ⟨pc3.drew,?_⟩
 show wpAnyH _ _ _ _ _ _ _ _ _
 refine wpAnyH_done (by kernel_rfl) ?_ _
 go_wp2_with fail
 refine bodyPost_ret (d8 rfl rfl rfl qr.drew (bj _) qt.drew rfl) rfl ?_
 exact ⟨rfl,HE.out.1.drew,HE.out.2.drew⟩
theorem dstp_b3 (w:World) (D:Bd) (nf:Nat) (M:Mc) (c:Cp) (h:IsMd w D nf M) (vm se ix:Int) (hq:c.pc%4=0) (hq2:¬ c.pc<0) (hq3:65535<c.pc) :
  Calls pQ 7 #[D.a,.agg (cpA c),U κ vm,U κ se,U κ ix] w fun e w'=>e=ρ (τ #[.agg (cpA c),.agg (trL ⟨4,0,c.pc,f0⟩)])∧Fr D.s w w'∧IsMd w' D nf M:=by
 unfold Bd.a
 have HL:Hid (∀ k,D.y k→k<w.heap.size):=h.lt
 obtain ⟨v0,gm,gc,gr,gt,hv0,hgm,hgc,hgr,hgt,HG,pm,pc,pr,pt,f0⟩:=lc w D c
 go_enter Tryz.func7,Tryz.ntmps7
 go_upto_region 1 with fail
 rw[←hv0,←hgt,←hgr,←hgc,←hgm]
 clear hv0 hgm hgc hgr hgt
 have h1:=h.keep0 f0
 have f1:Fr D.s w v0:=di f0
 clear h f0
 have yp:=pc.pc
 have u3:c.pc.tmod 4=0:=Int.tmod_eq_zero_of_dvd (by omega)
 have u1:decide (c.pc<0)=false:=decide_eq_false hq2
 have u2:decide (65535<c.pc)=true:=decide_eq_true hq3
 go_upto_region 2 with fail
 clear yp
 have nrt:¬ at' gr gt:=fun e=>by have e':gt=gr:=e;have:=HG.out;omega
 have ntr:¬ at' gt gr:=fun e=>by have e':gr=gt:=e;have:=HG.out;omega
 have pt1:=pt.keep (bb v0 gr (cpA (c))) nrt
 have qt:=pt1.setRow (A:=#[U κ 4,U κ 0,U κ c.pc,U κ 0,U κ 0,U κ 0,β false,U κ 0])
 have qr:=(pr.setRow (A:=cpA (c))).keep (bb _ gt #[U κ 4,U κ 0,U κ c.pc,U κ 0,U κ 0,U κ 0,β false,U κ 0]) ntr
 have HE:Hid (Fr D.s w ((v0.setRow gr (cpA (c))).setRow gt #[U κ 4,U κ 0,U κ c.pc,U κ 0,U κ 0,U κ 0,β false,U κ 0])∧IsMd ((v0.setRow gr (cpA (c))).setRow gt #[U κ 4,U κ 0,U κ c.pc,U κ 0,U κ 0,U κ 0,β false,U κ 0]) D nf _):=⟨bp (bp f1 (g:=gr) (by have:=HG.out;omega) _) (g:=gt) (by have:=HG.out;omega) _,(h1.past (bb _ gr _) (fun k hk=>by have:=HL.out k hk;have:=HG.out;omega)).past (bb _ gt _) (fun k hk=>by have:=HL.out k hk;have:=HG.out;omega)⟩
 have pc1:=pc.keep (bb v0 gr (cpA c)) (fun e=>by have e':gc=gr:=e;have:=HG.out;omega)
 have pc3:=pc1.keep (bb _ gt #[U κ 4,U κ 0,U κ c.pc,U κ 0,U κ 0,U κ 0,β false,U κ 0]) (fun e=>by have e':gc=gt:=e;have:=HG.out;omega)
 refine wp_region_held (S:=fun w'=>Row w' gc (cpA c) 30) (by kernel_rfl) ?_
 change wpAnyH _ _ _ _ _ _ _ _ (World.drew _)
 refine wpAnyH_take (i:=0) (v:=.agg (cpL c).toArray) rfl (by kernel_rfl) (by kernel_rfl) (by kernel_rfl) (fun _ _ _ h=>h) (yieldsIf_load_mid (by kernel_rfl) 30 _ rfl gc 0 rfl (cpL c) _ (fun _ h=>dc h) Tryz.underlying30 rfl (dw c)) pc.drew ?_
 show wpAnyH _ _ _ _ _ _ _ (Act.put _ (some 33) _) _
 simp only[Act.put,sA,sB,sC]
 refine tkQ 1 (v:=?_) rfl (by kernel_rfl) (fun _ _ _ h=>h) (fun w hS=>?_) pc.drew ?_
 rotate_left
 ·go_simp
  try with_reducible rfl
 show wpAnyH _ _ _ _ _ _ _ (Act.put _ (some 34) _) _
 simp only[Act.put,sA,sB,sC]
 refine tkQ 2 (v:=?_) rfl (by kernel_rfl) (fun _ _ _ h=>h) (fun w hS=>?_) pc.drew ?_
 rotate_left
 ·have yp:=hS.pc;go_simp
  try with_reducible rfl
 show wpAnyH _ _ _ _ _ _ _ (Act.put _ (some 35) _) _
 simp only[Act.put,sA,sB,sC]
 refine tkQ 3 (v:=?_) rfl (by kernel_rfl) (fun _ _ _ h=>h) (fun w hS=>?_) pc.drew ?_
 rotate_left
 ·go_simp
  try with_reducible rfl
 show wpAnyH _ _ _ _ _ _ _ (Act.put _ (some 36) _) _
 simp only[Act.put,sA,sB,sC]
 refine wpAnyH_all (rs:=[4]) (by kernel_rfl) (by simp) ?_
 intro i hi
 obtain rfl:i=4:=by simpa using hi
 clear hi
 refine ck rfl (by kernel_rfl) ?_
 refine wp_store_row 30 _ _ rfl gr (cpA c) rfl rfl 30 _ pr.drew (bk c) (bj c).symm (bw c) ?_
 refine ⟨pc1.drew,?_⟩
 show wpAnyH _ _ _ _ _ _ _ _ _
 refine wpAnyH_all (rs:=[5]) (by kernel_rfl) (by simp) ?_
 intro i hi
 obtain rfl:i=5:=by simpa using hi
 clear hi
 refine ck rfl (by kernel_rfl) ?_
 refine wp_store_row 52 _ _ rfl gt #[U κ 4,U κ 0,U κ c.pc,U κ 0,U κ 0,U κ 0,β false,U κ 0] rfl rfl 52 _ pt1.drew bn rfl (by simp[Value.oneCell']) ?_
 refine ⟨pc3.drew,?_⟩
 show wpAnyH _ _ _ _ _ _ _ _ _
 refine wpAnyH_done (by kernel_rfl) ?_ _
 go_wp2_with fail
 refine bodyPost_ret (d8 rfl rfl rfl qr.drew (bj _) qt.drew rfl) rfl ?_
 exact ⟨rfl,HE.out.1.drew,HE.out.2.drew⟩
theorem dstp_f (w:World) (D:Bd) (nf:Nat) (M:Mc) (c:Cp) (h:IsMd w D nf M) (vm se ix:Int) (hok:c.Ok) {n:Nat} (hm:M.few n) (hn:n<999990) (hp:c.pc%4=0∧0≤c.pc∧c.pc≤65535) (sd fi:Int) (hsd:spA M.V.isSome c=sd) (hfi:spF M.V.isSome c=fi) (hk:(rcF M nf vm sd fi se c.pc 4).k≠0) :
  Calls pQ 7 #[D.a,.agg (cpA c),U κ vm,U κ se,U κ ix] w fun e w'=>e=ρ (τ #[.agg (cpA c),.agg (trL ⟨1,0,c.pc,rcF M nf vm sd fi se c.pc 4⟩)])∧Fr D.s w w'∧IsMd w' D nf (rcM M nf vm sd fi se c.pc 4 ix):=by
 have HR:=fun w1 (h1:IsMd w1 D nf M)=>gv w1 D nf M vm sd fi se c.pc 4 ix h1 hm hn hp.2
 have HSp:=fun w1=>ku w1 D.p D.t D.v c hok vm se
 rw[h.v.same,hsd,hfi] at HSp
 obtain ⟨M',hM'⟩:∃ M',rcM M nf vm sd fi se c.pc 4 ix=M':=⟨_,rfl⟩
 obtain ⟨F,hF⟩:∃ F,rcF M nf vm sd fi se c.pc 4=F:=⟨_,rfl⟩
 obtain ⟨P,hP⟩:∃ P,rcP M nf vm sd fi se c.pc 4=P:=⟨_,rfl⟩
 rw[hM',hF,hP] at HR
 rw[hM',hF]
 rw[hF] at hk
 clear hM' hF hP hm hsd hfi
 unfold Bd.a at HR
 unfold Bd.a
 have HL:Hid (∀ k,D.y k→k<w.heap.size):=h.lt
 obtain ⟨v0,gm,gc,gr,gt,hv0,hgm,hgc,hgr,hgt,HG,pm,pc,pr,pt,f0⟩:=lc w D c
 go_enter Tryz.func7,Tryz.ntmps7
 go_upto_region 1 with fail
 rw[←hv0,←hgt,←hgr,←hgc,←hgm]
 clear hv0 hgm hgc hgr hgt
 have h1:=h.keep0 f0
 have f1:Fr D.s w v0:=di f0
 clear h f0
 have yp:=pc.pc
 have u3:c.pc.tmod 4=0:=Int.tmod_eq_zero_of_dvd (by omega)
 have u1:decide (c.pc<0)=false:=decide_eq_false (by omega)
 have u2:decide (65535<c.pc)=false:=decide_eq_false (by omega)
 obtain ⟨m0,m1,m2⟩:v0.cell? ⟨gm,0,none⟩=some (π (some ⟨D.p,0,none⟩))∧v0.cell? ⟨gm,1,none⟩=some (π (some ⟨D.t,0,none⟩))∧v0.cell? ⟨gm,2,none⟩=some (gu D.v):=⟨pm.cell 0,pm.cell 1,pm.cell 2⟩
 go_wp2_with (refine bh rfl 30 _ rfl gc rfl (cpA c) _ (cq pc) Tryz.underlying30 rfl (bk _) ?_)
 refine(HSp v0).mono ?_
 rintro e v1 ⟨rfl,fs⟩
 have HS1:=pm.lt
 clear HSp m0 m1 m2 yp
 replace pm:=(pm.keep fs (fun h=>h)).alloc (ω #[U κ vm,U κ sd,U κ fi,U κ se] 63)
 replace pc:=(pc.keep fs (fun h=>h)).alloc (ω #[U κ vm,U κ sd,U κ fi,U κ se] 63)
 replace pr:=(pr.keep fs (fun h=>h)).alloc (ω #[U κ vm,U κ sd,U κ fi,U κ se] 63)
 replace pt:=(pt.keep fs (fun h=>h)).alloc (ω #[U κ vm,U κ sd,U κ fi,U κ se] 63)
 replace h1:=(h1.keep0 fs).alloc (ω #[U κ vm,U κ sd,U κ fi,U κ se] 63)
 replace f1:=(f1.trans (di fs)).alloc (ω #[U κ vm,U κ sd,U κ fi,U κ se] 63)
 have ps:=ba v1 #[U κ vm,U κ sd,U κ fi,U κ se] 63
 have hgs:Hid (w.heap.size≤v1.heap.size):=(show _≤_ by have:=HS1;have:=fs.size;have:=HG.out;omega)
 clear HS1
 clear fs
 go_upto_region 4 with fail
 obtain ⟨v2,hv2⟩:∃ v2,v2=v1.alloc (ω #[U κ vm,U κ sd,U κ fi,U κ se] 63):=⟨_,rfl⟩
 rw[←hv2] at pm pc pr pt ps h1 f1 ⊢
 clear hv2
 obtain ⟨gs,hgs'⟩:∃ g,g=v1.heap.size:=⟨_,rfl⟩
 rw[←hgs'] at ps hgs ⊢
 clear hgs'
 obtain ⟨m0,m1,m2⟩:v2.cell? ⟨gm,0,none⟩=some (π (some ⟨D.p,0,none⟩))∧v2.cell? ⟨gm,1,none⟩=some (π (some ⟨D.t,0,none⟩))∧v2.cell? ⟨gm,2,none⟩=some (gu D.v):=⟨pm.cell 0,pm.cell 1,pm.cell 2⟩
 obtain ⟨s0,s1,s2,s3⟩:v2.cell? ⟨gs,0,none⟩=some (U κ vm)∧v2.cell? ⟨gs,1,none⟩=some (U κ sd)∧v2.cell? ⟨gs,2,none⟩=some (U κ fi)∧v2.cell? ⟨gs,3,none⟩=some (U κ se):=⟨ps.cell 0,ps.cell 1,ps.cell 2,ps.cell 3⟩
 have yp:=pc.pc
 go_wp2_with fail
 refine(HR v2 h1).mono ?_
 rintro e v3 ⟨rfl,f3,h3⟩
 clear HR h1 m0 m1 m2 s0 s1 s2 s3 yp
 have ng:∀ g,w.heap.size≤g→¬ D.s g:=fun g hg e=>absurd (HL.out _ (Or.inl e)) (by omega)
 replace pm:=pm.keep f3 (ng _ (by have:=HG.out;have:=hgs.out;omega))
 replace pc:=pc.keep f3 (ng _ (by have:=HG.out;have:=hgs.out;omega))
 replace ps:=ps.keep f3 (ng _ (by have:=HG.out;have:=hgs.out;omega))
 replace pr:=pr.keep f3 (ng _ (by have:=HG.out;have:=hgs.out;omega))
 replace pt:=pt.keep f3 (ng _ (by have:=HG.out;have:=hgs.out;omega))
 replace f3:=f1.trans f3
 clear f1 ng
 have t2:(F.k != 0)=true:=by simp[hk]
 have HS2:Hid (gr<v3.heap.size∧gt<v3.heap.size∧gc<v3.heap.size):=⟨pr.lt,pt.lt,pc.lt⟩
 go_upto_region 6 with fail
 have pf:=ba v3 #[U κ F.k,U κ F.s,U κ F.l,β F.wk,U κ F.p] 50
 replace pc:=pc.alloc (ω #[U κ F.k,U κ F.s,U κ F.l,β F.wk,U κ F.p] 50)
 replace pr:=pr.alloc (ω #[U κ F.k,U κ F.s,U κ F.l,β F.wk,U κ F.p] 50)
 replace pt:=pt.alloc (ω #[U κ F.k,U κ F.s,U κ F.l,β F.wk,U κ F.p] 50)
 have h4:=h3.alloc (ω #[U κ F.k,U κ F.s,U κ F.l,β F.wk,U κ F.p] 50)
 have f4:=f3.alloc (ω #[U κ F.k,U κ F.s,U κ F.l,β F.wk,U κ F.p] 50)
 clear pm ps h3 f3
 obtain ⟨v4,hv4⟩:∃ v4,v4=v3.alloc (ω #[U κ F.k,U κ F.s,U κ F.l,β F.wk,U κ F.p] 50):=⟨_,rfl⟩
 rw[←hv4] at pf pc pr pt h4 f4 ⊢
 clear hv4
 obtain ⟨gf,hgf⟩:∃ g,g=v3.heap.size:=⟨_,rfl⟩
 rw[←hgf] at pf HS2 ⊢
 clear hgf
 have nrt:¬ at' gr gt:=fun e=>by have e':gt=gr:=e;have:=HG.out;omega
 have ntr:¬ at' gt gr:=fun e=>by have e':gr=gt:=e;have:=HG.out;omega
 have pt1:=pt.keep (bb v4 gr (cpA (c))) nrt
 have qt:=pt1.setRow (A:=#[U κ 1,U κ 0,U κ c.pc,U κ F.k,U κ F.s,U κ F.l,β F.wk,U κ F.p])
 have qr:=(pr.setRow (A:=cpA (c))).keep (bb _ gt #[U κ 1,U κ 0,U κ c.pc,U κ F.k,U κ F.s,U κ F.l,β F.wk,U κ F.p]) ntr
 have HE:Hid (Fr D.s w ((v4.setRow gr (cpA (c))).setRow gt #[U κ 1,U κ 0,U κ c.pc,U κ F.k,U κ F.s,U κ F.l,β F.wk,U κ F.p])∧IsMd ((v4.setRow gr (cpA (c))).setRow gt #[U κ 1,U κ 0,U κ c.pc,U κ F.k,U κ F.s,U κ F.l,β F.wk,U κ F.p]) D nf _):=⟨bp (bp f4 (g:=gr) (by have:=HG.out;omega) _) (g:=gt) (by have:=HG.out;omega) _,(h4.past (bb _ gr _) (fun k hk=>by have:=HL.out k hk;have:=HG.out;omega)).past (bb _ gt _) (fun k hk=>by have:=HL.out k hk;have:=HG.out;omega)⟩
 have pc1:=pc.keep (bb v4 gr (cpA c)) (fun e=>by have e':gc=gr:=e;have:=HG.out;have:=HS2.out;omega)
 have pc3:=pc1.keep (bb _ gt #[U κ 1,U κ 0,U κ c.pc,U κ F.k,U κ F.s,U κ F.l,β F.wk,U κ F.p]) (fun e=>by have e':gc=gt:=e;have:=HG.out;have:=HS2.out;omega)
 have pf1:=pf.keep (bb v4 gr (cpA c)) (fun e=>by have e':gf=gr:=e;have:=HG.out;have:=HS2.out;omega)
 have pf3:=pf1.keep (bb _ gt #[U κ 1,U κ 0,U κ c.pc,U κ F.k,U κ F.s,U κ F.l,β F.wk,U κ F.p]) (fun e=>by have e':gf=gt:=e;have:=HG.out;have:=HS2.out;omega)
 refine wp_region_held (S:=fun w'=>Row w' gc (cpA c) 30∧Row w' gf #[U κ F.k,U κ F.s,U κ F.l,β F.wk,U κ F.p] 50) (by kernel_rfl) ?_
 change wpAnyH _ _ _ _ _ _ _ _ (World.drew _)
 refine wpAnyH_take (i:=0) (v:=.agg (cpL c).toArray) rfl (by kernel_rfl) (by kernel_rfl) (by kernel_rfl) (fun _ _ _ h=>h) (yieldsIf_load_mid (by kernel_rfl) 30 _ rfl gc 0 rfl (cpL c) _ (fun _ h=>dc h.1) Tryz.underlying30 rfl (dw c)) ⟨pc.drew,pf.drew⟩ ?_
 show wpAnyH _ _ _ _ _ _ _ (Act.put _ (some 54) _) _
 simp only[Act.put,sA,sB,sC]
 refine tkQ 1 (v:=?_) rfl (by kernel_rfl) (fun _ _ _ h=>h) (fun w hS=>?_) ⟨pc.drew,pf.drew⟩ ?_
 rotate_left
 ·go_simp
  try with_reducible rfl
 show wpAnyH _ _ _ _ _ _ _ (Act.put _ (some 55) _) _
 simp only[Act.put,sA,sB,sC]
 refine tkQ 2 (v:=?_) rfl (by kernel_rfl) (fun _ _ _ h=>h) (fun w hS=>?_) ⟨pc.drew,pf.drew⟩ ?_
 rotate_left
 ·have yp:=hS.1.pc;go_simp
  try with_reducible rfl
 show wpAnyH _ _ _ _ _ _ _ (Act.put _ (some 56) _) _
 simp only[Act.put,sA,sB,sC]
 refine tkQ 3 (v:=?_) rfl (by kernel_rfl) (fun _ _ _ h=>h) (fun w hS=>?_) ⟨pc.drew,pf.drew⟩ ?_
 rotate_left
 ·obtain ⟨y0,y1,y2,y3,y4⟩:=bl hS.2;go_simp
  try with_reducible rfl
 show wpAnyH _ _ _ _ _ _ _ (Act.put _ (some 57) _) _
 simp only[Act.put,sA,sB,sC]
 refine tkQ 4 (v:=?_) rfl (by kernel_rfl) (fun _ _ _ h=>h) (fun w hS=>?_) ⟨pc.drew,pf.drew⟩ ?_
 rotate_left
 ·go_simp
  try with_reducible rfl
 show wpAnyH _ _ _ _ _ _ _ (Act.put _ (some 58) _) _
 simp only[Act.put,sA,sB,sC]
 refine wpAnyH_all (rs:=[5]) (by kernel_rfl) (by simp) ?_
 intro i hi
 obtain rfl:i=5:=by simpa using hi
 clear hi
 refine ck rfl (by kernel_rfl) ?_
 refine wp_store_row 30 _ _ rfl gr (cpA c) rfl rfl 30 _ pr.drew (bk c) (bj c).symm (bw c) ?_
 refine ⟨⟨pc1.drew,pf1.drew⟩,?_⟩
 show wpAnyH _ _ _ _ _ _ _ _ _
 refine wpAnyH_all (rs:=[6]) (by kernel_rfl) (by simp) ?_
 intro i hi
 obtain rfl:i=6:=by simpa using hi
 clear hi
 refine ck rfl (by kernel_rfl) ?_
 refine wp_store_row 52 _ _ rfl gt #[U κ 1,U κ 0,U κ c.pc,U κ F.k,U κ F.s,U κ F.l,β F.wk,U κ F.p] rfl rfl 52 _ pt1.drew bn rfl (by simp[Value.oneCell']) ?_
 refine ⟨⟨pc3.drew,pf3.drew⟩,?_⟩
 show wpAnyH _ _ _ _ _ _ _ _ _
 refine wpAnyH_done (by kernel_rfl) ?_ _
 go_wp2_with fail
 refine bodyPost_ret (d8 rfl rfl rfl qr.drew (bj _) qt.drew rfl) rfl ?_
 exact ⟨rfl,HE.out.1.drew,HE.out.2.drew⟩
theorem dstp_u1 (w:World) (D:Bd) (nf:Nat) (M:Mc) (c:Cp) (h:IsMd w D nf M) (vm se ix:Int) (hok:c.Ok) {n:Nat} (hm:M.few n) (hn:n<999990) (hp:c.pc%4=0∧0≤c.pc∧c.pc≤65535) (sd fi:Int) (hsd:spA M.V.isSome c=sd) (hfi:spF M.V.isSome c=fi) (hk:(rcF M nf vm sd fi se c.pc 4).k=0) (y:Nat) (hyl:y<4294967296) (hy:j5 M.bs (rcP M nf vm sd fi se c.pc 4) 4 nf=(y:Int)) (hd:dp (y:Int)=false) :
  Calls pQ 7 #[D.a,.agg (cpA c),U κ vm,U κ se,U κ ix] w fun e w'=>e=ρ (τ #[.agg (cpA c),.agg (trL ⟨8,(y:Int),c.pc,f0⟩)])∧Fr D.s w w'∧IsMd w' D nf (rcM M nf vm sd fi se c.pc 4 ix):=by
 have hbs:(rcM M nf vm sd fi se c.pc 4 ix).bs=M.bs:=rfl
 have HDc:∀ w1,Calls pQ 31 #[U μ (y:Int)] w1 fun e w'=>e=ρ (τ #[.agg #[U κ (dOp (y:Int)),U κ (dA (y:Int)),U κ (dB (y:Int)),U κ (dC (y:Int)),U κ (dI (y:Int))],U κ 50])∧Fr bg w1 w':=fun w1=>by
  have:=mn y w1 hyl
  have e1:dE (y:Int)=50:=by unfold dE;rw[if_neg (by rw[hd];decide)]
  rw[e1] at this
  exact this
 have HR:=fun w1 (h1:IsMd w1 D nf M)=>gv w1 D nf M vm sd fi se c.pc 4 ix h1 hm hn hp.2
 have HSp:=fun w1=>ku w1 D.p D.t D.v c hok vm se
 rw[h.v.same,hsd,hfi] at HSp
 obtain ⟨M',hM'⟩:∃ M',rcM M nf vm sd fi se c.pc 4 ix=M':=⟨_,rfl⟩
 obtain ⟨F,hF⟩:∃ F,rcF M nf vm sd fi se c.pc 4=F:=⟨_,rfl⟩
 obtain ⟨P,hP⟩:∃ P,rcP M nf vm sd fi se c.pc 4=P:=⟨_,rfl⟩
 rw[hM',hF,hP] at HR
 have HLd:∀ w1,IsMd w1 D nf M'→Calls pQ 30 #[π (some ⟨D.p,0,none⟩),U κ P,U κ 4] w1 fun e w'=>e=ρ (τ #[U μ (y:Int),U κ (dk P 4 nf)])∧w'=w1:=fun w1 h1=>by
  have h2:=h1.r
  rw[←hM',hbs] at h2
  have:=la w1 D.p D.f nf M.bs P 4 h2
  rw[←hP,hy] at this
  rw[hP] at this
  exact this
 clear hd
 generalize dOp (y:Int)=O at HDc
 generalize dA (y:Int)=A at HDc
 generalize dB (y:Int)=B at HDc
 generalize dC (y:Int)=C at HDc
 generalize dI (y:Int)=I at HDc
 rw[hM']
 rw[hF] at hk
 clear hM' hF hP hm hsd hfi hy hbs
 unfold Bd.a at HR
 unfold Bd.a
 have HL:Hid (∀ k,D.y k→k<w.heap.size):=h.lt
 obtain ⟨v0,gm,gc,gr,gt,hv0,hgm,hgc,hgr,hgt,HG,pm,pc,pr,pt,f0⟩:=lc w D c
 go_enter Tryz.func7,Tryz.ntmps7
 go_upto_region 1 with fail
 rw[←hv0,←hgt,←hgr,←hgc,←hgm]
 clear hv0 hgm hgc hgr hgt
 have h1:=h.keep0 f0
 have f1:Fr D.s w v0:=di f0
 clear h f0
 have yp:=pc.pc
 have u3:c.pc.tmod 4=0:=Int.tmod_eq_zero_of_dvd (by omega)
 have u1:decide (c.pc<0)=false:=decide_eq_false (by omega)
 have u2:decide (65535<c.pc)=false:=decide_eq_false (by omega)
 obtain ⟨m0,m1,m2⟩:v0.cell? ⟨gm,0,none⟩=some (π (some ⟨D.p,0,none⟩))∧v0.cell? ⟨gm,1,none⟩=some (π (some ⟨D.t,0,none⟩))∧v0.cell? ⟨gm,2,none⟩=some (gu D.v):=⟨pm.cell 0,pm.cell 1,pm.cell 2⟩
 go_wp2_with (refine bh rfl 30 _ rfl gc rfl (cpA c) _ (cq pc) Tryz.underlying30 rfl (bk _) ?_)
 refine(HSp v0).mono ?_
 rintro e v1 ⟨rfl,fs⟩
 have HS1:=pm.lt
 clear HSp m0 m1 m2 yp
 replace pm:=(pm.keep fs (fun h=>h)).alloc (ω #[U κ vm,U κ sd,U κ fi,U κ se] 63)
 replace pc:=(pc.keep fs (fun h=>h)).alloc (ω #[U κ vm,U κ sd,U κ fi,U κ se] 63)
 replace pr:=(pr.keep fs (fun h=>h)).alloc (ω #[U κ vm,U κ sd,U κ fi,U κ se] 63)
 replace pt:=(pt.keep fs (fun h=>h)).alloc (ω #[U κ vm,U κ sd,U κ fi,U κ se] 63)
 replace h1:=(h1.keep0 fs).alloc (ω #[U κ vm,U κ sd,U κ fi,U κ se] 63)
 replace f1:=(f1.trans (di fs)).alloc (ω #[U κ vm,U κ sd,U κ fi,U κ se] 63)
 have ps:=ba v1 #[U κ vm,U κ sd,U κ fi,U κ se] 63
 have hgs:Hid (w.heap.size≤v1.heap.size):=(show _≤_ by have:=HS1;have:=fs.size;have:=HG.out;omega)
 clear HS1
 clear fs
 go_upto_region 4 with fail
 obtain ⟨v2,hv2⟩:∃ v2,v2=v1.alloc (ω #[U κ vm,U κ sd,U κ fi,U κ se] 63):=⟨_,rfl⟩
 rw[←hv2] at pm pc pr pt ps h1 f1 ⊢
 clear hv2
 obtain ⟨gs,hgs'⟩:∃ g,g=v1.heap.size:=⟨_,rfl⟩
 rw[←hgs'] at ps hgs ⊢
 clear hgs'
 obtain ⟨m0,m1,m2⟩:v2.cell? ⟨gm,0,none⟩=some (π (some ⟨D.p,0,none⟩))∧v2.cell? ⟨gm,1,none⟩=some (π (some ⟨D.t,0,none⟩))∧v2.cell? ⟨gm,2,none⟩=some (gu D.v):=⟨pm.cell 0,pm.cell 1,pm.cell 2⟩
 obtain ⟨s0,s1,s2,s3⟩:v2.cell? ⟨gs,0,none⟩=some (U κ vm)∧v2.cell? ⟨gs,1,none⟩=some (U κ sd)∧v2.cell? ⟨gs,2,none⟩=some (U κ fi)∧v2.cell? ⟨gs,3,none⟩=some (U κ se):=⟨ps.cell 0,ps.cell 1,ps.cell 2,ps.cell 3⟩
 have yp:=pc.pc
 go_wp2_with fail
 refine(HR v2 h1).mono ?_
 rintro e v3 ⟨rfl,f3,h3⟩
 clear HR h1 m0 m1 m2 s0 s1 s2 s3 yp
 have ng:∀ g,w.heap.size≤g→¬ D.s g:=fun g hg e=>absurd (HL.out _ (Or.inl e)) (by omega)
 replace pm:=pm.keep f3 (ng _ (by have:=HG.out;have:=hgs.out;omega))
 replace pc:=pc.keep f3 (ng _ (by have:=HG.out;have:=hgs.out;omega))
 replace ps:=ps.keep f3 (ng _ (by have:=HG.out;have:=hgs.out;omega))
 replace pr:=pr.keep f3 (ng _ (by have:=HG.out;have:=hgs.out;omega))
 replace pt:=pt.keep f3 (ng _ (by have:=HG.out;have:=hgs.out;omega))
 replace f3:=f1.trans f3
 clear f1 ng
 have t2:(F.k != 0)=false:=by simp[hk]
 go_upto_region 7 with fail
 replace pm:=pm.alloc (ω #[U κ 0,U κ F.s,U κ F.l,β F.wk,U κ F.p] 50)
 replace pc:=pc.alloc (ω #[U κ 0,U κ F.s,U κ F.l,β F.wk,U κ F.p] 50)
 replace ps:=ps.alloc (ω #[U κ 0,U κ F.s,U κ F.l,β F.wk,U κ F.p] 50)
 replace pr:=pr.alloc (ω #[U κ 0,U κ F.s,U κ F.l,β F.wk,U κ F.p] 50)
 replace pt:=pt.alloc (ω #[U κ 0,U κ F.s,U κ F.l,β F.wk,U κ F.p] 50)
 have h4:=h3.alloc (ω #[U κ 0,U κ F.s,U κ F.l,β F.wk,U κ F.p] 50)
 have f4:=f3.alloc (ω #[U κ 0,U κ F.s,U κ F.l,β F.wk,U κ F.p] 50)
 clear h3 f3
 obtain ⟨v4,hv4⟩:∃ v4,v4=v3.alloc (ω #[U κ 0,U κ F.s,U κ F.l,β F.wk,U κ F.p] 50):=⟨_,rfl⟩
 rw[←hv4] at pm pc ps pr pt h4 f4 ⊢
 clear hv4
 obtain ⟨gf,hgf⟩:∃ g,g=v3.heap.size:=⟨_,rfl⟩
 rw[←hgf] at ⊢
 clear hgf
 have m0:v4.cell? ⟨gm,0,none⟩=some (π (some ⟨D.p,0,none⟩)):=pm.cell 0
 go_wp2_with fail
 refine(HLd v4 h4).mono ?_
 rintro e v ⟨rfl,rfl⟩
 clear HLd m0
 go_wp2_with fail
 refine(HDc v).mono ?_
 rintro e v6 ⟨rfl,f6⟩
 clear HDc
 replace pm:=(pm.keep f6 (fun h=>h)).alloc (ω #[U κ O,U κ A,U κ B,U κ C,U κ I] 69)
 replace pc:=(pc.keep f6 (fun h=>h)).alloc (ω #[U κ O,U κ A,U κ B,U κ C,U κ I] 69)
 replace ps:=(ps.keep f6 (fun h=>h)).alloc (ω #[U κ O,U κ A,U κ B,U κ C,U κ I] 69)
 replace pr:=(pr.keep f6 (fun h=>h)).alloc (ω #[U κ O,U κ A,U κ B,U κ C,U κ I] 69)
 replace pt:=(pt.keep f6 (fun h=>h)).alloc (ω #[U κ O,U κ A,U κ B,U κ C,U κ I] 69)
 have h7:=(h4.keep0 f6).alloc (ω #[U κ O,U κ A,U κ B,U κ C,U κ I] 69)
 have f7:=(f4.trans (di f6)).alloc (ω #[U κ O,U κ A,U κ B,U κ C,U κ I] 69)
 have pi:=ba v6 #[U κ O,U κ A,U κ B,U κ C,U κ I] 69
 have HGI:Hid (w.heap.size≤v6.heap.size):=(f4.trans (di (D:=D) f6)).size
 clear h4 f4 f6
 go_upto_region 9 with fail
 obtain ⟨v7,hv7⟩:∃ v7,v7=v6.alloc (ω #[U κ O,U κ A,U κ B,U κ C,U κ I] 69):=⟨_,rfl⟩
 rw[←hv7] at pm pc ps pr pt pi h7 f7 ⊢
 clear hv7
 obtain ⟨gi,hgi⟩:∃ g,g=v6.heap.size:=⟨_,rfl⟩
 rw[←hgi] at pi HGI ⊢
 clear hgi
 clear pm ps pi
 go_upto_region 10 with fail
 have nrt:¬ at' gr gt:=fun e=>by have e':gt=gr:=e;have:=HG.out;omega
 have ntr:¬ at' gt gr:=fun e=>by have e':gr=gt:=e;have:=HG.out;omega
 have pt1:=pt.keep (bb v7 gr (cpA (c))) nrt
 have qt:=pt1.setRow (A:=#[U κ 8,U κ (y:Int),U κ c.pc,U κ 0,U κ 0,U κ 0,β false,U κ 0])
 have qr:=(pr.setRow (A:=cpA (c))).keep (bb _ gt #[U κ 8,U κ (y:Int),U κ c.pc,U κ 0,U κ 0,U κ 0,β false,U κ 0]) ntr
 have HE:Hid (Fr D.s w ((v7.setRow gr (cpA (c))).setRow gt #[U κ 8,U κ (y:Int),U κ c.pc,U κ 0,U κ 0,U κ 0,β false,U κ 0])∧IsMd ((v7.setRow gr (cpA (c))).setRow gt #[U κ 8,U κ (y:Int),U κ c.pc,U κ 0,U κ 0,U κ 0,β false,U κ 0]) D nf _):=⟨bp (bp f7 (g:=gr) (by have:=HG.out;omega) _) (g:=gt) (by have:=HG.out;omega) _,(h7.past (bb _ gr _) (fun k hk=>by have:=HL.out k hk;have:=HG.out;omega)).past (bb _ gt _) (fun k hk=>by have:=HL.out k hk;have:=HG.out;omega)⟩
 have pc1:=pc.keep (bb v7 gr (cpA c)) (fun e=>by have e':gc=gr:=e;have:=HG.out;omega)
 have pc3:=pc1.keep (bb _ gt #[U κ 8,U κ (y:Int),U κ c.pc,U κ 0,U κ 0,U κ 0,β false,U κ 0]) (fun e=>by have e':gc=gt:=e;have:=HG.out;omega)
 refine wp_region_held (S:=fun w'=>Row w' gc (cpA c) 30) (by kernel_rfl) ?_
 change wpAnyH _ _ _ _ _ _ _ _ (World.drew _)
 refine wpAnyH_take (i:=0) (v:=.agg (cpL c).toArray) rfl (by kernel_rfl) (by kernel_rfl) (by kernel_rfl) (fun _ _ _ h=>h) (yieldsIf_load_mid (by kernel_rfl) 30 _ rfl gc 0 rfl (cpL c) _ (fun _ h=>dc h) Tryz.underlying30 rfl (dw c)) pc.drew ?_
 show wpAnyH _ _ _ _ _ _ _ (Act.put _ (some 83) _) _
 simp only[Act.put,sA,sB,sC]
 refine tkQ 1 (v:=?_) rfl (by kernel_rfl) (fun _ _ _ h=>h) (fun w hS=>?_) pc.drew ?_
 rotate_left
 ·go_simp
  try with_reducible rfl
 show wpAnyH _ _ _ _ _ _ _ (Act.put _ (some 84) _) _
 simp only[Act.put,sA,sB,sC]
 refine tkQ 2 (v:=?_) rfl (by kernel_rfl) (fun _ _ _ h=>h) (fun w hS=>?_) pc.drew ?_
 rotate_left
 ·have hcv:IntKind.i64.wrap (y:Int)=(y:Int):=by rw[IntKind.wrap_i64];omega
  go_simp
  try with_reducible rfl
 show wpAnyH _ _ _ _ _ _ _ (Act.put _ (some 85) _) _
 simp only[Act.put,sA,sB,sC]
 refine tkQ 3 (v:=?_) rfl (by kernel_rfl) (fun _ _ _ h=>h) (fun w hS=>?_) pc.drew ?_
 rotate_left
 ·go_simp
  try with_reducible rfl
 show wpAnyH _ _ _ _ _ _ _ (Act.put _ (some 86) _) _
 simp only[Act.put,sA,sB,sC]
 refine tkQ 4 (v:=?_) rfl (by kernel_rfl) (fun _ _ _ h=>h) (fun w hS=>?_) pc.drew ?_
 rotate_left
 ·have yp:=hS.pc;go_simp
  try with_reducible rfl
 show wpAnyH _ _ _ _ _ _ _ (Act.put _ (some 87) _) _
 simp only[Act.put,sA,sB,sC]
 refine tkQ 5 (v:=?_) rfl (by kernel_rfl) (fun _ _ _ h=>h) (fun w hS=>?_) pc.drew ?_
 rotate_left
 ·go_simp
  try with_reducible rfl
 show wpAnyH _ _ _ _ _ _ _ (Act.put _ (some 88) _) _
 simp only[Act.put,sA,sB,sC]
 refine wpAnyH_all (rs:=[6]) (by kernel_rfl) (by simp) ?_
 intro i hi
 obtain rfl:i=6:=by simpa using hi
 clear hi
 refine ck rfl (by kernel_rfl) ?_
 refine wp_store_row 30 _ _ rfl gr (cpA c) rfl rfl 30 _ pr.drew (bk c) (bj c).symm (bw c) ?_
 refine ⟨pc1.drew,?_⟩
 show wpAnyH _ _ _ _ _ _ _ _ _
 refine wpAnyH_all (rs:=[7]) (by kernel_rfl) (by simp) ?_
 intro i hi
 obtain rfl:i=7:=by simpa using hi
 clear hi
 refine ck rfl (by kernel_rfl) ?_
 refine wp_store_row 52 _ _ rfl gt #[U κ 8,U κ (y:Int),U κ c.pc,U κ 0,U κ 0,U κ 0,β false,U κ 0] rfl rfl 52 _ pt1.drew bn rfl (by simp[Value.oneCell']) ?_
 refine ⟨pc3.drew,?_⟩
 show wpAnyH _ _ _ _ _ _ _ _ _
 refine wpAnyH_done (by kernel_rfl) ?_ _
 go_wp2_with fail
 refine bodyPost_ret (d8 rfl rfl rfl qr.drew (bj _) qt.drew rfl) rfl ?_
 exact ⟨rfl,HE.out.1.drew,HE.out.2.drew⟩
theorem dstp_u2 (w:World) (D:Bd) (nf:Nat) (M:Mc) (c:Cp) (h:IsMd w D nf M) (vm se ix:Int) (hok:c.Ok) {n:Nat} (hm:M.few n) (hn:n<999990) (hp:c.pc%4=0∧0≤c.pc∧c.pc≤65535) (sd fi:Int) (hsd:spA M.V.isSome c=sd) (hfi:spF M.V.isSome c=fi) (hk:(rcF M nf vm sd fi se c.pc 4).k=0) (y:Nat) (hyl:y<4294967296) (hy:j5 M.bs (rcP M nf vm sd fi se c.pc 4) 4 nf=(y:Int)) (hd:dp (y:Int)=true) (o a b d i:Nat) (hw1:dOp (y:Int)=o) (hw2:dA (y:Int)=a) (hw3:dB (y:Int)=b) (hw4:dC (y:Int)=d) (hw5:dI (y:Int)=i) (hg:isG o=true) (hV:M.V=none) :
  Calls pQ 7 #[D.a,.agg (cpA c),U κ vm,U κ se,U κ ix] w fun e w'=>e=ρ (τ #[.agg (cpA c),.agg (trL ⟨8,(y:Int),c.pc,f0⟩)])∧Fr D.s w w'∧IsMd w' D nf (rcM M nf vm sd fi se c.pc 4 ix):=by
 have hbs:(rcM M nf vm sd fi se c.pc 4 ix).bs=M.bs:=rfl
 have HDc:∀ w1,Calls pQ 31 #[U μ (y:Int)] w1 fun e w'=>e=ρ (τ #[.agg #[U κ (o:Int),U κ (a:Int),U κ (b:Int),U κ (d:Int),U κ (i:Int)],U κ 0])∧Fr bg w1 w':=fun w1=>by
  have:=mn y w1 hyl
  have e1:dE (y:Int)=0:=by unfold dE;rw[if_pos hd]
  rw[e1,hw1,hw2,hw3,hw4,hw5] at this
  exact this
 have HR:=fun w1 (h1:IsMd w1 D nf M)=>gv w1 D nf M vm sd fi se c.pc 4 ix h1 hm hn hp.2
 have HSp:=fun w1=>ku w1 D.p D.t D.v c hok vm se
 rw[h.v.same,hsd,hfi] at HSp
 obtain ⟨M',hM'⟩:∃ M',rcM M nf vm sd fi se c.pc 4 ix=M':=⟨_,rfl⟩
 obtain ⟨F,hF⟩:∃ F,rcF M nf vm sd fi se c.pc 4=F:=⟨_,rfl⟩
 obtain ⟨P,hP⟩:∃ P,rcP M nf vm sd fi se c.pc 4=P:=⟨_,rfl⟩
 rw[hM',hF,hP] at HR
 have HLd:∀ w1,IsMd w1 D nf M'→Calls pQ 30 #[π (some ⟨D.p,0,none⟩),U κ P,U κ 4] w1 fun e w'=>e=ρ (τ #[U μ (y:Int),U κ (dk P 4 nf)])∧w'=w1:=fun w1 h1=>by
  have h2:=h1.r
  rw[←hM',hbs] at h2
  have:=la w1 D.p D.f nf M.bs P 4 h2
  rw[←hP,hy] at this
  rw[hP] at this
  exact this
 have HD:Hid (D.v=none):=h.vnone hV
 clear hV hd hw1 hw2 hw3 hw4 hw5
 rw[hM']
 rw[hF] at hk
 clear hM' hF hP hm hsd hfi hy hbs
 unfold Bd.a at HR
 unfold Bd.a
 have HL:Hid (∀ k,D.y k→k<w.heap.size):=h.lt
 obtain ⟨v0,gm,gc,gr,gt,hv0,hgm,hgc,hgr,hgt,HG,pm,pc,pr,pt,f0⟩:=lc w D c
 go_enter Tryz.func7,Tryz.ntmps7
 go_upto_region 1 with fail
 rw[←hv0,←hgt,←hgr,←hgc,←hgm]
 clear hv0 hgm hgc hgr hgt
 have h1:=h.keep0 f0
 have f1:Fr D.s w v0:=di f0
 clear h f0
 have yp:=pc.pc
 have u3:c.pc.tmod 4=0:=Int.tmod_eq_zero_of_dvd (by omega)
 have u1:decide (c.pc<0)=false:=decide_eq_false (by omega)
 have u2:decide (65535<c.pc)=false:=decide_eq_false (by omega)
 obtain ⟨m0,m1,m2⟩:v0.cell? ⟨gm,0,none⟩=some (π (some ⟨D.p,0,none⟩))∧v0.cell? ⟨gm,1,none⟩=some (π (some ⟨D.t,0,none⟩))∧v0.cell? ⟨gm,2,none⟩=some (gu D.v):=⟨pm.cell 0,pm.cell 1,pm.cell 2⟩
 go_wp2_with (refine bh rfl 30 _ rfl gc rfl (cpA c) _ (cq pc) Tryz.underlying30 rfl (bk _) ?_)
 refine(HSp v0).mono ?_
 rintro e v1 ⟨rfl,fs⟩
 have HS1:=pm.lt
 clear HSp m0 m1 m2 yp
 replace pm:=(pm.keep fs (fun h=>h)).alloc (ω #[U κ vm,U κ sd,U κ fi,U κ se] 63)
 replace pc:=(pc.keep fs (fun h=>h)).alloc (ω #[U κ vm,U κ sd,U κ fi,U κ se] 63)
 replace pr:=(pr.keep fs (fun h=>h)).alloc (ω #[U κ vm,U κ sd,U κ fi,U κ se] 63)
 replace pt:=(pt.keep fs (fun h=>h)).alloc (ω #[U κ vm,U κ sd,U κ fi,U κ se] 63)
 replace h1:=(h1.keep0 fs).alloc (ω #[U κ vm,U κ sd,U κ fi,U κ se] 63)
 replace f1:=(f1.trans (di fs)).alloc (ω #[U κ vm,U κ sd,U κ fi,U κ se] 63)
 have ps:=ba v1 #[U κ vm,U κ sd,U κ fi,U κ se] 63
 have hgs:Hid (w.heap.size≤v1.heap.size):=(show _≤_ by have:=HS1;have:=fs.size;have:=HG.out;omega)
 clear HS1
 clear fs
 go_upto_region 4 with fail
 obtain ⟨v2,hv2⟩:∃ v2,v2=v1.alloc (ω #[U κ vm,U κ sd,U κ fi,U κ se] 63):=⟨_,rfl⟩
 rw[←hv2] at pm pc pr pt ps h1 f1 ⊢
 clear hv2
 obtain ⟨gs,hgs'⟩:∃ g,g=v1.heap.size:=⟨_,rfl⟩
 rw[←hgs'] at ps hgs ⊢
 clear hgs'
 obtain ⟨m0,m1,m2⟩:v2.cell? ⟨gm,0,none⟩=some (π (some ⟨D.p,0,none⟩))∧v2.cell? ⟨gm,1,none⟩=some (π (some ⟨D.t,0,none⟩))∧v2.cell? ⟨gm,2,none⟩=some (gu D.v):=⟨pm.cell 0,pm.cell 1,pm.cell 2⟩
 obtain ⟨s0,s1,s2,s3⟩:v2.cell? ⟨gs,0,none⟩=some (U κ vm)∧v2.cell? ⟨gs,1,none⟩=some (U κ sd)∧v2.cell? ⟨gs,2,none⟩=some (U κ fi)∧v2.cell? ⟨gs,3,none⟩=some (U κ se):=⟨ps.cell 0,ps.cell 1,ps.cell 2,ps.cell 3⟩
 have yp:=pc.pc
 go_wp2_with fail
 refine(HR v2 h1).mono ?_
 rintro e v3 ⟨rfl,f3,h3⟩
 clear HR h1 m0 m1 m2 s0 s1 s2 s3 yp
 have ng:∀ g,w.heap.size≤g→¬ D.s g:=fun g hg e=>absurd (HL.out _ (Or.inl e)) (by omega)
 replace pm:=pm.keep f3 (ng _ (by have:=HG.out;have:=hgs.out;omega))
 replace pc:=pc.keep f3 (ng _ (by have:=HG.out;have:=hgs.out;omega))
 replace ps:=ps.keep f3 (ng _ (by have:=HG.out;have:=hgs.out;omega))
 replace pr:=pr.keep f3 (ng _ (by have:=HG.out;have:=hgs.out;omega))
 replace pt:=pt.keep f3 (ng _ (by have:=HG.out;have:=hgs.out;omega))
 replace f3:=f1.trans f3
 clear f1 ng
 have t2:(F.k != 0)=false:=by simp[hk]
 go_upto_region 7 with fail
 replace pm:=pm.alloc (ω #[U κ 0,U κ F.s,U κ F.l,β F.wk,U κ F.p] 50)
 replace pc:=pc.alloc (ω #[U κ 0,U κ F.s,U κ F.l,β F.wk,U κ F.p] 50)
 replace ps:=ps.alloc (ω #[U κ 0,U κ F.s,U κ F.l,β F.wk,U κ F.p] 50)
 replace pr:=pr.alloc (ω #[U κ 0,U κ F.s,U κ F.l,β F.wk,U κ F.p] 50)
 replace pt:=pt.alloc (ω #[U κ 0,U κ F.s,U κ F.l,β F.wk,U κ F.p] 50)
 have h4:=h3.alloc (ω #[U κ 0,U κ F.s,U κ F.l,β F.wk,U κ F.p] 50)
 have f4:=f3.alloc (ω #[U κ 0,U κ F.s,U κ F.l,β F.wk,U κ F.p] 50)
 clear h3 f3
 obtain ⟨v4,hv4⟩:∃ v4,v4=v3.alloc (ω #[U κ 0,U κ F.s,U κ F.l,β F.wk,U κ F.p] 50):=⟨_,rfl⟩
 rw[←hv4] at pm pc ps pr pt h4 f4 ⊢
 clear hv4
 obtain ⟨gf,hgf⟩:∃ g,g=v3.heap.size:=⟨_,rfl⟩
 rw[←hgf] at ⊢
 clear hgf
 have m0:v4.cell? ⟨gm,0,none⟩=some (π (some ⟨D.p,0,none⟩)):=pm.cell 0
 go_wp2_with fail
 refine(HLd v4 h4).mono ?_
 rintro e v ⟨rfl,rfl⟩
 clear HLd m0
 go_wp2_with fail
 refine(HDc v).mono ?_
 rintro e v6 ⟨rfl,f6⟩
 clear HDc
 replace pm:=(pm.keep f6 (fun h=>h)).alloc (ω #[U κ (o:Int),U κ (a:Int),U κ (b:Int),U κ (d:Int),U κ (i:Int)] 69)
 replace pc:=(pc.keep f6 (fun h=>h)).alloc (ω #[U κ (o:Int),U κ (a:Int),U κ (b:Int),U κ (d:Int),U κ (i:Int)] 69)
 replace ps:=(ps.keep f6 (fun h=>h)).alloc (ω #[U κ (o:Int),U κ (a:Int),U κ (b:Int),U κ (d:Int),U κ (i:Int)] 69)
 replace pr:=(pr.keep f6 (fun h=>h)).alloc (ω #[U κ (o:Int),U κ (a:Int),U κ (b:Int),U κ (d:Int),U κ (i:Int)] 69)
 replace pt:=(pt.keep f6 (fun h=>h)).alloc (ω #[U κ (o:Int),U κ (a:Int),U κ (b:Int),U κ (d:Int),U κ (i:Int)] 69)
 have h7:=(h4.keep0 f6).alloc (ω #[U κ (o:Int),U κ (a:Int),U κ (b:Int),U κ (d:Int),U κ (i:Int)] 69)
 have f7:=(f4.trans (di f6)).alloc (ω #[U κ (o:Int),U κ (a:Int),U κ (b:Int),U κ (d:Int),U κ (i:Int)] 69)
 have pi:=ba v6 #[U κ (o:Int),U κ (a:Int),U κ (b:Int),U κ (d:Int),U κ (i:Int)] 69
 have HGI:Hid (w.heap.size≤v6.heap.size):=(f4.trans (di (D:=D) f6)).size
 clear h4 f4 f6
 go_upto_region 9 with fail
 obtain ⟨v7,hv7⟩:∃ v7,v7=v6.alloc (ω #[U κ (o:Int),U κ (a:Int),U κ (b:Int),U κ (d:Int),U κ (i:Int)] 69):=⟨_,rfl⟩
 rw[←hv7] at pm pc ps pr pt pi h7 f7 ⊢
 clear hv7
 obtain ⟨gi,hgi⟩:∃ g,g=v6.heap.size:=⟨_,rfl⟩
 rw[←hgi] at pi HGI ⊢
 clear hgi
 have x0:v7.cell? ⟨gi,0,none⟩=some (U κ (o:Int)):=pi.cell 0
 have m2:v7.cell? ⟨gm,2,none⟩=some (gu D.v):=pm.cell 2
 go_wp2_with fail
 refine(mv v7 o).mono ?_
 rintro e v7 ⟨rfl,rfl⟩
 rw[HD.out] at m2
 rw[hg]
 unfold gu at m2
 clear pm ps pi
 clear x0
 go_upto_region 10 with fail
 have nrt:¬ at' gr gt:=fun e=>by have e':gt=gr:=e;have:=HG.out;omega
 have ntr:¬ at' gt gr:=fun e=>by have e':gr=gt:=e;have:=HG.out;omega
 have pt1:=pt.keep (bb v7 gr (cpA (c))) nrt
 have qt:=pt1.setRow (A:=#[U κ 8,U κ (y:Int),U κ c.pc,U κ 0,U κ 0,U κ 0,β false,U κ 0])
 have qr:=(pr.setRow (A:=cpA (c))).keep (bb _ gt #[U κ 8,U κ (y:Int),U κ c.pc,U κ 0,U κ 0,U κ 0,β false,U κ 0]) ntr
 have HE:Hid (Fr D.s w ((v7.setRow gr (cpA (c))).setRow gt #[U κ 8,U κ (y:Int),U κ c.pc,U κ 0,U κ 0,U κ 0,β false,U κ 0])∧IsMd ((v7.setRow gr (cpA (c))).setRow gt #[U κ 8,U κ (y:Int),U κ c.pc,U κ 0,U κ 0,U κ 0,β false,U κ 0]) D nf _):=⟨bp (bp f7 (g:=gr) (by have:=HG.out;omega) _) (g:=gt) (by have:=HG.out;omega) _,(h7.past (bb _ gr _) (fun k hk=>by have:=HL.out k hk;have:=HG.out;omega)).past (bb _ gt _) (fun k hk=>by have:=HL.out k hk;have:=HG.out;omega)⟩
 have pc1:=pc.keep (bb v7 gr (cpA c)) (fun e=>by have e':gc=gr:=e;have:=HG.out;omega)
 have pc3:=pc1.keep (bb _ gt #[U κ 8,U κ (y:Int),U κ c.pc,U κ 0,U κ 0,U κ 0,β false,U κ 0]) (fun e=>by have e':gc=gt:=e;have:=HG.out;omega)
 refine wp_region_held (S:=fun w'=>Row w' gc (cpA c) 30) (by kernel_rfl) ?_
 change wpAnyH _ _ _ _ _ _ _ _ (World.drew _)
 refine wpAnyH_take (i:=0) (v:=.agg (cpL c).toArray) rfl (by kernel_rfl) (by kernel_rfl) (by kernel_rfl) (fun _ _ _ h=>h) (yieldsIf_load_mid (by kernel_rfl) 30 _ rfl gc 0 rfl (cpL c) _ (fun _ h=>dc h) Tryz.underlying30 rfl (dw c)) pc.drew ?_
 show wpAnyH _ _ _ _ _ _ _ (Act.put _ (some 83) _) _
 simp only[Act.put,sA,sB,sC]
 refine tkQ 1 (v:=?_) rfl (by kernel_rfl) (fun _ _ _ h=>h) (fun w hS=>?_) pc.drew ?_
 rotate_left
 ·go_simp
  try with_reducible rfl
 show wpAnyH _ _ _ _ _ _ _ (Act.put _ (some 84) _) _
 simp only[Act.put,sA,sB,sC]
 refine tkQ 2 (v:=?_) rfl (by kernel_rfl) (fun _ _ _ h=>h) (fun w hS=>?_) pc.drew ?_
 rotate_left
 ·have hcv:IntKind.i64.wrap (y:Int)=(y:Int):=by rw[IntKind.wrap_i64];omega
  go_simp
  try with_reducible rfl
 show wpAnyH _ _ _ _ _ _ _ (Act.put _ (some 85) _) _
 simp only[Act.put,sA,sB,sC]
 refine tkQ 3 (v:=?_) rfl (by kernel_rfl) (fun _ _ _ h=>h) (fun w hS=>?_) pc.drew ?_
 rotate_left
 ·go_simp
  try with_reducible rfl
 show wpAnyH _ _ _ _ _ _ _ (Act.put _ (some 86) _) _
 simp only[Act.put,sA,sB,sC]
 refine tkQ 4 (v:=?_) rfl (by kernel_rfl) (fun _ _ _ h=>h) (fun w hS=>?_) pc.drew ?_
 rotate_left
 ·have yp:=hS.pc;go_simp
  try with_reducible rfl
 show wpAnyH _ _ _ _ _ _ _ (Act.put _ (some 87) _) _
 simp only[Act.put,sA,sB,sC]
 refine tkQ 5 (v:=?_) rfl (by kernel_rfl) (fun _ _ _ h=>h) (fun w hS=>?_) pc.drew ?_
 rotate_left
 ·go_simp
  try with_reducible rfl
 show wpAnyH _ _ _ _ _ _ _ (Act.put _ (some 88) _) _
 simp only[Act.put,sA,sB,sC]
 refine wpAnyH_all (rs:=[6]) (by kernel_rfl) (by simp) ?_
 intro i hi
 obtain rfl:i=6:=by simpa using hi
 clear hi
 refine ck rfl (by kernel_rfl) ?_
 refine wp_store_row 30 _ _ rfl gr (cpA c) rfl rfl 30 _ pr.drew (bk c) (bj c).symm (bw c) ?_
 refine ⟨pc1.drew,?_⟩
 show wpAnyH _ _ _ _ _ _ _ _ _
 refine wpAnyH_all (rs:=[7]) (by kernel_rfl) (by simp) ?_
 intro i hi
 obtain rfl:i=7:=by simpa using hi
 clear hi
 refine ck rfl (by kernel_rfl) ?_
 refine wp_store_row 52 _ _ rfl gt #[U κ 8,U κ (y:Int),U κ c.pc,U κ 0,U κ 0,U κ 0,β false,U κ 0] rfl rfl 52 _ pt1.drew bn rfl (by simp[Value.oneCell']) ?_
 refine ⟨pc3.drew,?_⟩
 show wpAnyH _ _ _ _ _ _ _ _ _
 refine wpAnyH_done (by kernel_rfl) ?_ _
 go_wp2_with fail
 refine bodyPost_ret (d8 rfl rfl rfl qr.drew (bj _) qt.drew rfl) rfl ?_
 exact ⟨rfl,HE.out.1.drew,HE.out.2.drew⟩
end Go.Proofs.YtibhbjbpodlpiaaGreat
