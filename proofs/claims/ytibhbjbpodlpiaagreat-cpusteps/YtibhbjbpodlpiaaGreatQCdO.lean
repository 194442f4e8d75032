/-
  Contracts over the translation. No statement is proved here.
-/
import Derived.Test.YtibhbjbpodlpiaaGreatQCpuStep2
import Derived.Test.YtibhbjbpodlpiaaGreatQJU
set_option maxRecDepth 100000
set_option maxHeartbeats 8000000
namespace Go.Proofs.YtibhbjbpodlpiaaGreat
open Go.RowKit
open Go.Value renaming int → U, bool → β, pointer → π, tuple → τ
open Go.IntKind renaming i64 → κ, u32 → μ
open Go.Obj renaming cells → ω
open Go.Ending renaming returned → ρ
open Go.Proofs.Tryz renaming prog → pQ
open List renaming setIfInBounds_toArray → sA, set_cons_succ → sB, set_cons_zero → sC
theorem doth_17 (w:World) (D:Bd) (nf:Nat) (M:Mc) (c:Cp) (_hok:c.Ok) (vm sd fi se:Int) (a b d i:Nat) (_ha:a<16) (_hb:b<16) (_hi:i<65536) (hp:0≤c.pc∧c.pc≤65535) (h:IsMd w D nf M) :
  Calls pQ 37 #[D.a,.agg (cpA c),.agg #[U κ 17,U κ (a:Int),U κ (b:Int),U κ (d:Int),U κ (i:Int)],.agg #[U κ vm,U κ sd,U κ fi,U κ se]] w fun e w'=>e=ρ (τ #[.agg (cpA (c)),.agg (trL (⟨5,(i:Int),c.pc,f0⟩))])∧Fr D.s w w'∧IsMd w' D nf (M):=by
 unfold Bd.a
 have HL:Hid (∀ k,D.y k→k<w.heap.size):=h.lt
 obtain ⟨v0,gm,gc,gi,gs,gr,gt,hv0,hgm,hgc,hgi,hgs,hgr,hgt,HG,pm,pc,pi,ps,pr,pt,f0⟩:=co w D c 17 a b d i vm sd fi se
 go_enter Tryz.func37,Tryz.ntmps37
 go_upto_region 1 with fail
 rw[←hv0,←hgt,←hgr,←hgs,←hgi,←hgc,←hgm]
 clear hv0 hgm hgc hgi hgs hgr hgt
 have yp:=pc.pc
 have e4:IntKind.i64.wrap (c.pc+4)=c.pc+4:=by rw[IntKind.wrap_i64];omega
 go_wp2_with (refine bh rfl 30 _ rfl gc rfl (cpA c) _ (cq pc) Tryz.underlying30 rfl (bk _) ?_)
 refine(cn _ c (c.pc+4) (by omega)).mono ?_
 rintro e v1 ⟨rfl,f1⟩
 have f01:Fr bg v0 v1:=f1
 replace f1:=f0.trans f1
 have hsz:=f1.size
 have HN0:Hid (gm<v1.heap.size∧gc<v1.heap.size∧gi<v1.heap.size∧gs<v1.heap.size∧gr<v1.heap.size∧gt<v1.heap.size):=(show _∧_ by have:=pm.lt;have:=pc.lt;have:=pi.lt;have:=ps.lt;have:=pr.lt;have:=pt.lt;have:=‹Fr bg v0 v1›.size;omega)
 clear yp e4
 replace pm:=pm.keep f01 (fun h=>h)
 replace pc:=pc.keep f01 (fun h=>h)
 replace pi:=pi.keep f01 (fun h=>h)
 replace ps:=ps.keep f01 (fun h=>h)
 replace pr:=pr.keep f01 (fun h=>h)
 replace pt:=pt.keep f01 (fun h=>h)
 obtain ⟨v2,gn,hv2,hgn,pn,pn2,fa⟩:=nxt v1 ((c.setP ((c.pc+4)%65536)))
 clear f01 f0
 go_upto_region 2 with(refine wpList_store_row rfl 30 _ _ rfl v1.heap.size (cpA (c.setP ((c.pc+4)%65536))) rfl rfl 30 _ pn (bk _) (bj _).symm (bw _) ?_)
 clear pn
 rw[←hv2,←hgn]
 rw[←hgn] at HN0 hsz
 clear hv2 hgn
 replace pm:=pm.keep fa (fun h=>h)
 replace pc:=pc.keep fa (fun h=>h)
 replace pi:=pi.keep fa (fun h=>h)
 replace ps:=ps.keep fa (fun h=>h)
 replace pr:=pr.keep fa (fun h=>h)
 replace pt:=pt.keep fa (fun h=>h)
 replace f1:=f1.trans fa
 have h2:=h.keep0 f1
 have f2:Fr D.s w v2:=di f1
 clear f1 fa h
 have HN:Hid (w.heap.size≤gn):=hsz
 clear hsz
 have pn:=pn2
 clear pn2
 obtain ⟨x0,x1,x2,x3,x4⟩:=bl pi
 clear pm ps pn
 go_upto_region 4 with fail
 have nrt:¬ at' gr gt:=fun e=>by have e':gt=gr:=e;have:=HG.out;omega
 have ntr:¬ at' gt gr:=fun e=>by have e':gr=gt:=e;have:=HG.out;omega
 have pt1:=pt.keep (bb v2 gr (cpA (c))) nrt
 have qt:=pt1.setRow (A:=#[U κ 5,U κ (i:Int),U κ c.pc,U κ 0,U κ 0,U κ 0,β false,U κ 0])
 have qr:=(pr.setRow (A:=cpA (c))).keep (bb _ gt #[U κ 5,U κ (i:Int),U κ c.pc,U κ 0,U κ 0,U κ 0,β false,U κ 0]) ntr
 have HE:Hid (Fr D.s w ((v2.setRow gr (cpA (c))).setRow gt #[U κ 5,U κ (i:Int),U κ c.pc,U κ 0,U κ 0,U κ 0,β false,U κ 0])∧IsMd ((v2.setRow gr (cpA (c))).setRow gt #[U κ 5,U κ (i:Int),U κ c.pc,U κ 0,U κ 0,U κ 0,β false,U κ 0]) D nf _):=⟨bp (bp f2 (g:=gr) (by have:=HG.out;omega) _) (g:=gt) (by have:=HG.out;omega) _,(h2.past (bb _ gr _) (fun k hk=>by have:=HL.out k hk;have:=HG.out;omega)).past (bb _ gt _) (fun k hk=>by have:=HL.out k hk;have:=HG.out;omega)⟩
 have pc1:=(pc.keep (bb v2 gr (cpA (c))) (fun e=>by have e':gc=gr:=e;have:=HG.out;omega))
 have pi1:=(pi.keep (bb v2 gr (cpA (c))) (fun e=>by have e':gi=gr:=e;have:=HG.out;omega))
 have pc3:=pc1.keep (bb _ gt #[U κ 5,U κ (i:Int),U κ c.pc,U κ 0,U κ 0,U κ 0,β false,U κ 0]) (fun e=>by have e':gc=gt:=e;have:=HG.out;omega)
 have pi3:=pi1.keep (bb _ gt #[U κ 5,U κ (i:Int),U κ c.pc,U κ 0,U κ 0,U κ 0,β false,U κ 0]) (fun e=>by have e':gi=gt:=e;have:=HG.out;omega)
 refine wp_region_held (S:=fun w'=>Row w' gc (cpA c) 30∧Row w' gi #[U κ 17,U κ (a:Int),U κ (b:Int),U κ (d:Int),U κ (i:Int)] 69) (by kernel_rfl) ?_
 change wpAnyH _ _ _ _ _ _ _ _ (World.drew _)
 refine wpAnyH_take (i:=0) (v:=.agg (cpL c).toArray) rfl (by kernel_rfl) (by kernel_rfl) (by kernel_rfl) (fun _ _ _ h=>h) (yieldsIf_load_mid (by kernel_rfl) 30 _ rfl gc 0 rfl (cpL c) _ (fun _ h=>dc h.1) Tryz.underlying30 rfl (dw c)) ⟨pc.drew,pi.drew⟩ ?_
 show wpAnyH _ _ _ _ _ _ _ (Act.put _ (some 23) _) _
 simp only[Act.put,sA,sB,sC]
 refine tkQ 1 (v:=?_) rfl (by kernel_rfl) (fun _ _ _ h=>h) (fun w hS=>?_) ⟨pc.drew,pi.drew⟩ ?_
 rotate_left
 ·go_simp
  try with_reducible rfl
 show wpAnyH _ _ _ _ _ _ _ (Act.put _ (some 24) _) _
 simp only[Act.put,sA,sB,sC]
 refine tkQ 2 (v:=?_) rfl (by kernel_rfl) (fun _ _ _ h=>h) (fun w hS=>?_) ⟨pc.drew,pi.drew⟩ ?_
 rotate_left
 ·obtain ⟨x0,x1,x2,x3,x4⟩:=bl hS.2;go_simp
  try with_reducible rfl
 show wpAnyH _ _ _ _ _ _ _ (Act.put _ (some 25) _) _
 simp only[Act.put,sA,sB,sC]
 refine tkQ 3 (v:=?_) rfl (by kernel_rfl) (fun _ _ _ h=>h) (fun w hS=>?_) ⟨pc.drew,pi.drew⟩ ?_
 rotate_left
 ·go_simp
  try with_reducible rfl
 show wpAnyH _ _ _ _ _ _ _ (Act.put _ (some 26) _) _
 simp only[Act.put,sA,sB,sC]
 refine tkQ 4 (v:=?_) rfl (by kernel_rfl) (fun _ _ _ h=>h) (fun w hS=>?_) ⟨pc.drew,pi.drew⟩ ?_
 rotate_left
 ·have yp:=hS.1.pc;go_simp
  try with_reducible rfl
 show wpAnyH _ _ _ _ _ _ _ (Act.put _ (some 27) _) _
 simp only[Act.put,sA,sB,sC]
 refine tkQ 5 (v:=?_) rfl (by kernel_rfl) (fun _ _ _ h=>h) (fun w hS=>?_) ⟨pc.drew,pi.drew⟩ ?_
 rotate_left
 ·go_simp
  try with_reducible rfl
 show wpAnyH _ _ _ _ _ _ _ (Act.put _ (some 28) _) _
 simp only[Act.put,sA,sB,sC]
 refine wpAnyH_all (rs:=[6]) (by kernel_rfl) (by simp) ?_
 intro i hi
 obtain rfl:i=6:=by simpa using hi
 clear hi
 refine ck rfl (by kernel_rfl) ?_
 refine wp_store_row 30 _ _ rfl gr (cpA (c)) rfl rfl 30 _ pr.drew (bk _) (bj _).symm (bw _) ?_
 refine ⟨⟨pc1.drew,pi1.drew⟩,?_⟩
 show wpAnyH _ _ _ _ _ _ _ _ _
 refine wpAnyH_all (rs:=[7]) (by kernel_rfl) (by simp) ?_
 intro i hi
 obtain rfl:i=7:=by simpa using hi
 clear hi
 refine ck rfl (by kernel_rfl) ?_
 refine wp_store_row 52 _ _ rfl gt #[U κ 5,U κ (i:Int),U κ c.pc,U κ 0,U κ 0,U κ 0,β false,U κ 0] rfl rfl 52 _ pt1.drew bn rfl (by simp[Value.oneCell']) ?_
 refine ⟨⟨pc3.drew,pi3.drew⟩,?_⟩
 show wpAnyH _ _ _ _ _ _ _ _ _
 refine wpAnyH_done (by kernel_rfl) ?_ _
 go_wp2_with fail
 refine bodyPost_ret (d8 rfl rfl rfl qr.drew (bj _) qt.drew rfl) rfl ?_
 exact ⟨rfl,HE.out.1.drew,HE.out.2.drew⟩
theorem doth_18 (w:World) (D:Bd) (nf:Nat) (M:Mc) (c:Cp) (_hok:c.Ok) (vm sd fi se:Int) (a b d i:Nat) (_ha:a<16) (_hb:b<16) (_hi:i<65536) (hp:0≤c.pc∧c.pc≤65535) (h:IsMd w D nf M) :
  Calls pQ 37 #[D.a,.agg (cpA c),.agg #[U κ 18,U κ (a:Int),U κ (b:Int),U κ (d:Int),U κ (i:Int)],.agg #[U κ vm,U κ sd,U κ fi,U κ se]] w fun e w'=>e=ρ (τ #[.agg (cpA (c)),.agg (trL (⟨6,(i:Int),c.pc,f0⟩))])∧Fr D.s w w'∧IsMd w' D nf (M):=by
 unfold Bd.a
 have HL:Hid (∀ k,D.y k→k<w.heap.size):=h.lt
 obtain ⟨v0,gm,gc,gi,gs,gr,gt,hv0,hgm,hgc,hgi,hgs,hgr,hgt,HG,pm,pc,pi,ps,pr,pt,f0⟩:=co w D c 18 a b d i vm sd fi se
 go_enter Tryz.func37,Tryz.ntmps37
 go_upto_region 1 with fail
 rw[←hv0,←hgt,←hgr,←hgs,←hgi,←hgc,←hgm]
 clear hv0 hgm hgc hgi hgs hgr hgt
 have yp:=pc.pc
 have e4:IntKind.i64.wrap (c.pc+4)=c.pc+4:=by rw[IntKind.wrap_i64];omega
 go_wp2_with (refine bh rfl 30 _ rfl gc rfl (cpA c) _ (cq pc) Tryz.underlying30 rfl (bk _) ?_)
 refine(cn _ c (c.pc+4) (by omega)).mono ?_
 rintro e v1 ⟨rfl,f1⟩
 have f01:Fr bg v0 v1:=f1
 replace f1:=f0.trans f1
 have hsz:=f1.size
 have HN0:Hid (gm<v1.heap.size∧gc<v1.heap.size∧gi<v1.heap.size∧gs<v1.heap.size∧gr<v1.heap.size∧gt<v1.heap.size):=(show _∧_ by have:=pm.lt;have:=pc.lt;have:=pi.lt;have:=ps.lt;have:=pr.lt;have:=pt.lt;have:=‹Fr bg v0 v1›.size;omega)
 clear yp e4
 replace pm:=pm.keep f01 (fun h=>h)
 replace pc:=pc.keep f01 (fun h=>h)
 replace pi:=pi.keep f01 (fun h=>h)
 replace ps:=ps.keep f01 (fun h=>h)
 replace pr:=pr.keep f01 (fun h=>h)
 replace pt:=pt.keep f01 (fun h=>h)
 obtain ⟨v2,gn,hv2,hgn,pn,pn2,fa⟩:=nxt v1 ((c.setP ((c.pc+4)%65536)))
 clear f01 f0
 go_upto_region 2 with(refine wpList_store_row rfl 30 _ _ rfl v1.heap.size (cpA (c.setP ((c.pc+4)%65536))) rfl rfl 30 _ pn (bk _) (bj _).symm (bw _) ?_)
 clear pn
 rw[←hv2,←hgn]
 rw[←hgn] at HN0 hsz
 clear hv2 hgn
 replace pm:=pm.keep fa (fun h=>h)
 replace pc:=pc.keep fa (fun h=>h)
 replace pi:=pi.keep fa (fun h=>h)
 replace ps:=ps.keep fa (fun h=>h)
 replace pr:=pr.keep fa (fun h=>h)
 replace pt:=pt.keep fa (fun h=>h)
 replace f1:=f1.trans fa
 have h2:=h.keep0 f1
 have f2:Fr D.s w v2:=di f1
 clear f1 fa h
 have HN:Hid (w.heap.size≤gn):=hsz
 clear hsz
 have pn:=pn2
 clear pn2
 obtain ⟨x0,x1,x2,x3,x4⟩:=bl pi
 clear pm ps pn
 go_upto_region 6 with fail
 have nrt:¬ at' gr gt:=fun e=>by have e':gt=gr:=e;have:=HG.out;omega
 have ntr:¬ at' gt gr:=fun e=>by have e':gr=gt:=e;have:=HG.out;omega
 have pt1:=pt.keep (bb v2 gr (cpA (c))) nrt
 have qt:=pt1.setRow (A:=#[U κ 6,U κ (i:Int),U κ c.pc,U κ 0,U κ 0,U κ 0,β false,U κ 0])
 have qr:=(pr.setRow (A:=cpA (c))).keep (bb _ gt #[U κ 6,U κ (i:Int),U κ c.pc,U κ 0,U κ 0,U κ 0,β false,U κ 0]) ntr
 have HE:Hid (Fr D.s w ((v2.setRow gr (cpA (c))).setRow gt #[U κ 6,U κ (i:Int),U κ c.pc,U κ 0,U κ 0,U κ 0,β false,U κ 0])∧IsMd ((v2.setRow gr (cpA (c))).setRow gt #[U κ 6,U κ (i:Int),U κ c.pc,U κ 0,U κ 0,U κ 0,β false,U κ 0]) D nf _):=⟨bp (bp f2 (g:=gr) (by have:=HG.out;omega) _) (g:=gt) (by have:=HG.out;omega) _,(h2.past (bb _ gr _) (fun k hk=>by have:=HL.out k hk;have:=HG.out;omega)).past (bb _ gt _) (fun k hk=>by have:=HL.out k hk;have:=HG.out;omega)⟩
 have pc1:=(pc.keep (bb v2 gr (cpA (c))) (fun e=>by have e':gc=gr:=e;have:=HG.out;omega))
 have pi1:=(pi.keep (bb v2 gr (cpA (c))) (fun e=>by have e':gi=gr:=e;have:=HG.out;omega))
 have pc3:=pc1.keep (bb _ gt #[U κ 6,U κ (i:Int),U κ c.pc,U κ 0,U κ 0,U κ 0,β false,U κ 0]) (fun e=>by have e':gc=gt:=e;have:=HG.out;omega)
 have pi3:=pi1.keep (bb _ gt #[U κ 6,U κ (i:Int),U κ c.pc,U κ 0,U κ 0,U κ 0,β false,U κ 0]) (fun e=>by have e':gi=gt:=e;have:=HG.out;omega)
 refine wp_region_held (S:=fun w'=>Row w' gc (cpA c) 30∧Row w' gi #[U κ 18,U κ (a:Int),U κ (b:Int),U κ (d:Int),U κ (i:Int)] 69) (by kernel_rfl) ?_
 change wpAnyH _ _ _ _ _ _ _ _ (World.drew _)
 refine wpAnyH_take (i:=0) (v:=.agg (cpL c).toArray) rfl (by kernel_rfl) (by kernel_rfl) (by kernel_rfl) (fun _ _ _ h=>h) (yieldsIf_load_mid (by kernel_rfl) 30 _ rfl gc 0 rfl (cpL c) _ (fun _ h=>dc h.1) Tryz.underlying30 rfl (dw c)) ⟨pc.drew,pi.drew⟩ ?_
 show wpAnyH _ _ _ _ _ _ _ (Act.put _ (some 31) _) _
 simp only[Act.put,sA,sB,sC]
 refine tkQ 1 (v:=?_) rfl (by kernel_rfl) (fun _ _ _ h=>h) (fun w hS=>?_) ⟨pc.drew,pi.drew⟩ ?_
 rotate_left
 ·go_simp
  try with_reducible rfl
 show wpAnyH _ _ _ _ _ _ _ (Act.put _ (some 32) _) _
 simp only[Act.put,sA,sB,sC]
 refine tkQ 2 (v:=?_) rfl (by kernel_rfl) (fun _ _ _ h=>h) (fun w hS=>?_) ⟨pc.drew,pi.drew⟩ ?_
 rotate_left
 ·obtain ⟨x0,x1,x2,x3,x4⟩:=bl hS.2;go_simp
  try with_reducible rfl
 show wpAnyH _ _ _ _ _ _ _ (Act.put _ (some 33) _) _
 simp only[Act.put,sA,sB,sC]
 refine tkQ 3 (v:=?_) rfl (by kernel_rfl) (fun _ _ _ h=>h) (fun w hS=>?_) ⟨pc.drew,pi.drew⟩ ?_
 rotate_left
 ·go_simp
  try with_reducible rfl
 show wpAnyH _ _ _ _ _ _ _ (Act.put _ (some 34) _) _
 simp only[Act.put,sA,sB,sC]
 refine tkQ 4 (v:=?_) rfl (by kernel_rfl) (fun _ _ _ h=>h) (fun w hS=>?_) ⟨pc.drew,pi.drew⟩ ?_
 rotate_left
 ·have yp:=hS.1.pc;go_simp
  try with_reducible rfl
 show wpAnyH _ _ _ _ _ _ _ (Act.put _ (some 35) _) _
 simp only[Act.put,sA,sB,sC]
 refine tkQ 5 (v:=?_) rfl (by kernel_rfl) (fun _ _ _ h=>h) (fun w hS=>?_) ⟨pc.drew,pi.drew⟩ ?_
 rotate_left
 ·go_simp
  try with_reducible rfl
 show wpAnyH _ _ _ _ _ _ _ (Act.put _ (some 36) _) _
 simp only[Act.put,sA,sB,sC]
 refine wpAnyH_all (rs:=[6]) (by kernel_rfl) (by simp) ?_
 intro i hi
 obtain rfl:i=6:=by simpa using hi
 clear hi
 refine ck rfl (by kernel_rfl) ?_
 refine wp_store_row 30 _ _ rfl gr (cpA (c)) rfl rfl 30 _ pr.drew (bk _) (bj _).symm (bw _) ?_
 refine ⟨⟨pc1.drew,pi1.drew⟩,?_⟩
 show wpAnyH _ _ _ _ _ _ _ _ _
 refine wpAnyH_all (rs:=[7]) (by kernel_rfl) (by simp) ?_
 intro i hi
 obtain rfl:i=7:=by simpa using hi
 clear hi
 refine ck rfl (by kernel_rfl) ?_
 refine wp_store_row 52 _ _ rfl gt #[U κ 6,U κ (i:Int),U κ c.pc,U κ 0,U κ 0,U κ 0,β false,U κ 0] rfl rfl 52 _ pt1.drew bn rfl (by simp[Value.oneCell']) ?_
 refine ⟨⟨pc3.drew,pi3.drew⟩,?_⟩
 show wpAnyH _ _ _ _ _ _ _ _ _
 refine wpAnyH_done (by kernel_rfl) ?_ _
 go_wp2_with fail
 refine bodyPost_ret (d8 rfl rfl rfl qr.drew (bj _) qt.drew rfl) rfl ?_
 exact ⟨rfl,HE.out.1.drew,HE.out.2.drew⟩
theorem doth_19t (w:World) (D:Bd) (nf:Nat) (M:Mc) (c:Cp) (_hok:c.Ok) (vm sd fi se:Int) (a b d i:Nat) (_ha:a<16) (_hb:b<16) (_hi:i<65536) (hp:0≤c.pc∧c.pc≤65535) (h:IsMd w D nf M) (hq:6<i) :
  Calls pQ 37 #[D.a,.agg (cpA c),.agg #[U κ 19,U κ (a:Int),U κ (b:Int),U κ (d:Int),U κ (i:Int)],.agg #[U κ vm,U κ sd,U κ fi,U κ se]] w fun e w'=>e=ρ (τ #[.agg (cpA (c)),.agg (trL (⟨7,(i:Int),c.pc,f0⟩))])∧Fr D.s w w'∧IsMd w' D nf (M):=by
 unfold Bd.a
 have HL:Hid (∀ k,D.y k→k<w.heap.size):=h.lt
 obtain ⟨v0,gm,gc,gi,gs,gr,gt,hv0,hgm,hgc,hgi,hgs,hgr,hgt,HG,pm,pc,pi,ps,pr,pt,f0⟩:=co w D c 19 a b d i vm sd fi se
 go_enter Tryz.func37,Tryz.ntmps37
 go_upto_region 1 with fail
 rw[←hv0,←hgt,←hgr,←hgs,←hgi,←hgc,←hgm]
 clear hv0 hgm hgc hgi hgs hgr hgt
 have yp:=pc.pc
 have e4:IntKind.i64.wrap (c.pc+4)=c.pc+4:=by rw[IntKind.wrap_i64];omega
 go_wp2_with (refine bh rfl 30 _ rfl gc rfl (cpA c) _ (cq pc) Tryz.underlying30 rfl (bk _) ?_)
 refine(cn _ c (c.pc+4) (by omega)).mono ?_
 rintro e v1 ⟨rfl,f1⟩
 have f01:Fr bg v0 v1:=f1
 replace f1:=f0.trans f1
 have hsz:=f1.size
 have HN0:Hid (gm<v1.heap.size∧gc<v1.heap.size∧gi<v1.heap.size∧gs<v1.heap.size∧gr<v1.heap.size∧gt<v1.heap.size):=(show _∧_ by have:=pm.lt;have:=pc.lt;have:=pi.lt;have:=ps.lt;have:=pr.lt;have:=pt.lt;have:=‹Fr bg v0 v1›.size;omega)
 clear yp e4
 replace pm:=pm.keep f01 (fun h=>h)
 replace pc:=pc.keep f01 (fun h=>h)
 replace pi:=pi.keep f01 (fun h=>h)
 replace ps:=ps.keep f01 (fun h=>h)
 replace pr:=pr.keep f01 (fun h=>h)
 replace pt:=pt.keep f01 (fun h=>h)
 obtain ⟨v2,gn,hv2,hgn,pn,pn2,fa⟩:=nxt v1 ((c.setP ((c.pc+4)%65536)))
 clear f01 f0
 go_upto_region 2 with(refine wpList_store_row rfl 30 _ _ rfl v1.heap.size (cpA (c.setP ((c.pc+4)%65536))) rfl rfl 30 _ pn (bk _) (bj _).symm (bw _) ?_)
 clear pn
 rw[←hv2,←hgn]
 rw[←hgn] at HN0 hsz
 clear hv2 hgn
 replace pm:=pm.keep fa (fun h=>h)
 replace pc:=pc.keep fa (fun h=>h)
 replace pi:=pi.keep fa (fun h=>h)
 replace ps:=ps.keep fa (fun h=>h)
 replace pr:=pr.keep fa (fun h=>h)
 replace pt:=pt.keep fa (fun h=>h)
 replace f1:=f1.trans fa
 have h2:=h.keep0 f1
 have f2:Fr D.s w v2:=di f1
 clear f1 fa h
 have HN:Hid (w.heap.size≤gn):=hsz
 clear hsz
 have pn:=pn2
 clear pn2
 obtain ⟨x0,x1,x2,x3,x4⟩:=bl pi
 have u1:decide ((6:Int)<(i:Int))=true:=decide_eq_true (by omega)
 clear pm ps pn
 go_upto_region 9 with fail
 have nrt:¬ at' gr gt:=fun e=>by have e':gt=gr:=e;have:=HG.out;omega
 have ntr:¬ at' gt gr:=fun e=>by have e':gr=gt:=e;have:=HG.out;omega
 have pt1:=pt.keep (bb v2 gr (cpA (c))) nrt
 have qt:=pt1.setRow (A:=#[U κ 7,U κ (i:Int),U κ c.pc,U κ 0,U κ 0,U κ 0,β false,U κ 0])
 have qr:=(pr.setRow (A:=cpA (c))).keep (bb _ gt #[U κ 7,U κ (i:Int),U κ c.pc,U κ 0,U κ 0,U κ 0,β false,U κ 0]) ntr
 have HE:Hid (Fr D.s w ((v2.setRow gr (cpA (c))).setRow gt #[U κ 7,U κ (i:Int),U κ c.pc,U κ 0,U κ 0,U κ 0,β false,U κ 0])∧IsMd ((v2.setRow gr (cpA (c))).setRow gt #[U κ 7,U κ (i:Int),U κ c.pc,U κ 0,U κ 0,U κ 0,β false,U κ 0]) D nf _):=⟨bp (bp f2 (g:=gr) (by have:=HG.out;omega) _) (g:=gt) (by have:=HG.out;omega) _,(h2.past (bb _ gr _) (fun k hk=>by have:=HL.out k hk;have:=HG.out;omega)).past (bb _ gt _) (fun k hk=>by have:=HL.out k hk;have:=HG.out;omega)⟩
 have pc1:=(pc.keep (bb v2 gr (cpA (c))) (fun e=>by have e':gc=gr:=e;have:=HG.out;omega))
 have pi1:=(pi.keep (bb v2 gr (cpA (c))) (fun e=>by have e':gi=gr:=e;have:=HG.out;omega))
 have pc3:=pc1.keep (bb _ gt #[U κ 7,U κ (i:Int),U κ c.pc,U κ 0,U κ 0,U κ 0,β false,U κ 0]) (fun e=>by have e':gc=gt:=e;have:=HG.out;omega)
 have pi3:=pi1.keep (bb _ gt #[U κ 7,U κ (i:Int),U κ c.pc,U κ 0,U κ 0,U κ 0,β false,U κ 0]) (fun e=>by have e':gi=gt:=e;have:=HG.out;omega)
 refine wp_region_held (S:=fun w'=>Row w' gc (cpA c) 30∧Row w' gi #[U κ 19,U κ (a:Int),U κ (b:Int),U κ (d:Int),U κ (i:Int)] 69) (by kernel_rfl) ?_
 change wpAnyH _ _ _ _ _ _ _ _ (World.drew _)
 refine wpAnyH_take (i:=0) (v:=.agg (cpL c).toArray) rfl (by kernel_rfl) (by kernel_rfl) (by kernel_rfl) (fun _ _ _ h=>h) (yieldsIf_load_mid (by kernel_rfl) 30 _ rfl gc 0 rfl (cpL c) _ (fun _ h=>dc h.1) Tryz.underlying30 rfl (dw c)) ⟨pc.drew,pi.drew⟩ ?_
 show wpAnyH _ _ _ _ _ _ _ (Act.put _ (some 42) _) _
 simp only[Act.put,sA,sB,sC]
 refine tkQ 1 (v:=?_) rfl (by kernel_rfl) (fun _ _ _ h=>h) (fun w hS=>?_) ⟨pc.drew,pi.drew⟩ ?_
 rotate_left
 ·go_simp
  try with_reducible rfl
 show wpAnyH _ _ _ _ _ _ _ (Act.put _ (some 43) _) _
 simp only[Act.put,sA,sB,sC]
 refine tkQ 2 (v:=?_) rfl (by kernel_rfl) (fun _ _ _ h=>h) (fun w hS=>?_) ⟨pc.drew,pi.drew⟩ ?_
 rotate_left
 ·obtain ⟨x0,x1,x2,x3,x4⟩:=bl hS.2;go_simp
  try with_reducible rfl
 show wpAnyH _ _ _ _ _ _ _ (Act.put _ (some 44) _) _
 simp only[Act.put,sA,sB,sC]
 refine tkQ 3 (v:=?_) rfl (by kernel_rfl) (fun _ _ _ h=>h) (fun w hS=>?_) ⟨pc.drew,pi.drew⟩ ?_
 rotate_left
 ·go_simp
  try with_reducible rfl
 show wpAnyH _ _ _ _ _ _ _ (Act.put _ (some 45) _) _
 simp only[Act.put,sA,sB,sC]
 refine tkQ 4 (v:=?_) rfl (by kernel_rfl) (fun _ _ _ h=>h) (fun w hS=>?_) ⟨pc.drew,pi.drew⟩ ?_
 rotate_left
 ·have yp:=hS.1.pc;go_simp
  try with_reducible rfl
 show wpAnyH _ _ _ _ _ _ _ (Act.put _ (some 46) _) _
 simp only[Act.put,sA,sB,sC]
 refine tkQ 5 (v:=?_) rfl (by kernel_rfl) (fun _ _ _ h=>h) (fun w hS=>?_) ⟨pc.drew,pi.drew⟩ ?_
 rotate_left
 ·go_simp
  try with_reducible rfl
 show wpAnyH _ _ _ _ _ _ _ (Act.put _ (some 47) _) _
 simp only[Act.put,sA,sB,sC]
 refine wpAnyH_all (rs:=[6]) (by kernel_rfl) (by simp) ?_
 intro i hi
 obtain rfl:i=6:=by simpa using hi
 clear hi
 refine ck rfl (by kernel_rfl) ?_
 refine wp_store_row 30 _ _ rfl gr (cpA (c)) rfl rfl 30 _ pr.drew (bk _) (bj _).symm (bw _) ?_
 refine ⟨⟨pc1.drew,pi1.drew⟩,?_⟩
 show wpAnyH _ _ _ _ _ _ _ _ _
 refine wpAnyH_all (rs:=[7]) (by kernel_rfl) (by simp) ?_
 intro i hi
 obtain rfl:i=7:=by simpa using hi
 clear hi
 refine ck rfl (by kernel_rfl) ?_
 refine wp_store_row 52 _ _ rfl gt #[U κ 7,U κ (i:Int),U κ c.pc,U κ 0,U κ 0,U κ 0,β false,U κ 0] rfl rfl 52 _ pt1.drew bn rfl (by simp[Value.oneCell']) ?_
 refine ⟨⟨pc3.drew,pi3.drew⟩,?_⟩
 show wpAnyH _ _ _ _ _ _ _ _ _
 refine wpAnyH_done (by kernel_rfl) ?_ _
 go_wp2_with fail
 refine bodyPost_ret (d8 rfl rfl rfl qr.drew (bj _) qt.drew rfl) rfl ?_
 exact ⟨rfl,HE.out.1.drew,HE.out.2.drew⟩
theorem doth_20t (w:World) (D:Bd) (nf:Nat) (M:Mc) (c:Cp) (_hok:c.Ok) (vm sd fi se:Int) (a b d i:Nat) (_ha:a<16) (_hb:b<16) (_hi:i<65536) (hp:0≤c.pc∧c.pc≤65535) (h:IsMd w D nf M) (hq:5<i) :
  Calls pQ 37 #[D.a,.agg (cpA c),.agg #[U κ 20,U κ (a:Int),U κ (b:Int),U κ (d:Int),U κ (i:Int)],.agg #[U κ vm,U κ sd,U κ fi,U κ se]] w fun e w'=>e=ρ (τ #[.agg (cpA (c)),.agg (trL (⟨7,(i:Int),c.pc,f0⟩))])∧Fr D.s w w'∧IsMd w' D nf (M):=by
 unfold Bd.a
 have HL:Hid (∀ k,D.y k→k<w.heap.size):=h.lt
 obtain ⟨v0,gm,gc,gi,gs,gr,gt,hv0,hgm,hgc,hgi,hgs,hgr,hgt,HG,pm,pc,pi,ps,pr,pt,f0⟩:=co w D c 20 a b d i vm sd fi se
 go_enter Tryz.func37,Tryz.ntmps37
 go_upto_region 1 with fail
 rw[←hv0,←hgt,←hgr,←hgs,←hgi,←hgc,←hgm]
 clear hv0 hgm hgc hgi hgs hgr hgt
 have yp:=pc.pc
 have e4:IntKind.i64.wrap (c.pc+4)=c.pc+4:=by rw[IntKind.wrap_i64];omega
 go_wp2_with (refine bh rfl 30 _ rfl gc rfl (cpA c) _ (cq pc) Tryz.underlying30 rfl (bk _) ?_)
 refine(cn _ c (c.pc+4) (by omega)).mono ?_
 rintro e v1 ⟨rfl,f1⟩
 have f01:Fr bg v0 v1:=f1
 replace f1:=f0.trans f1
 have hsz:=f1.size
 have HN0:Hid (gm<v1.heap.size∧gc<v1.heap.size∧gi<v1.heap.size∧gs<v1.heap.size∧gr<v1.heap.size∧gt<v1.heap.size):=(show _∧_ by have:=pm.lt;have:=pc.lt;have:=pi.lt;have:=ps.lt;have:=pr.lt;have:=pt.lt;have:=‹Fr bg v0 v1›.size;omega)
 clear yp e4
 replace pm:=pm.keep f01 (fun h=>h)
 replace pc:=pc.keep f01 (fun h=>h)
 replace pi:=pi.keep f01 (fun h=>h)
 replace ps:=ps.keep f01 (fun h=>h)
 replace pr:=pr.keep f01 (fun h=>h)
 replace pt:=pt.keep f01 (fun h=>h)
 obtain ⟨v2,gn,hv2,hgn,pn,pn2,fa⟩:=nxt v1 ((c.setP ((c.pc+4)%65536)))
 clear f01 f0
 go_upto_region 2 with(refine wpList_store_row rfl 30 _ _ rfl v1.heap.size (cpA (c.setP ((c.pc+4)%65536))) rfl rfl 30 _ pn (bk _) (bj _).symm (bw _) ?_)
 clear pn
 rw[←hv2,←hgn]
 rw[←hgn] at HN0 hsz
 clear hv2 hgn
 replace pm:=pm.keep fa (fun h=>h)
 replace pc:=pc.keep fa (fun h=>h)
 replace pi:=pi.keep fa (fun h=>h)
 replace ps:=ps.keep fa (fun h=>h)
 replace pr:=pr.keep fa (fun h=>h)
 replace pt:=pt.keep fa (fun h=>h)
 replace f1:=f1.trans fa
 have h2:=h.keep0 f1
 have f2:Fr D.s w v2:=di f1
 clear f1 fa h
 have HN:Hid (w.heap.size≤gn):=hsz
 clear hsz
 have pn:=pn2
 clear pn2
 obtain ⟨x0,x1,x2,x3,x4⟩:=bl pi
 have u1:decide ((5:Int)<(i:Int))=true:=decide_eq_true (by omega)
 clear pm ps pn
 go_upto_region 13 with fail
 have nrt:¬ at' gr gt:=fun e=>by have e':gt=gr:=e;have:=HG.out;omega
 have ntr:¬ at' gt gr:=fun e=>by have e':gr=gt:=e;have:=HG.out;omega
 have pt1:=pt.keep (bb v2 gr (cpA (c))) nrt
 have qt:=pt1.setRow (A:=#[U κ 7,U κ (i:Int),U κ c.pc,U κ 0,U κ 0,U κ 0,β false,U κ 0])
 have qr:=(pr.setRow (A:=cpA (c))).keep (bb _ gt #[U κ 7,U κ (i:Int),U κ c.pc,U κ 0,U κ 0,U κ 0,β false,U κ 0]) ntr
 have HE:Hid (Fr D.s w ((v2.setRow gr (cpA (c))).setRow gt #[U κ 7,U κ (i:Int),U κ c.pc,U κ 0,U κ 0,U κ 0,β false,U κ 0])∧IsMd ((v2.setRow gr (cpA (c))).setRow gt #[U κ 7,U κ (i:Int),U κ c.pc,U κ 0,U κ 0,U κ 0,β false,U κ 0]) D nf _):=⟨bp (bp f2 (g:=gr) (by have:=HG.out;omega) _) (g:=gt) (by have:=HG.out;omega) _,(h2.past (bb _ gr _) (fun k hk=>by have:=HL.out k hk;have:=HG.out;omega)).past (bb _ gt _) (fun k hk=>by have:=HL.out k hk;have:=HG.out;omega)⟩
 have pc1:=(pc.keep (bb v2 gr (cpA (c))) (fun e=>by have e':gc=gr:=e;have:=HG.out;omega))
 have pi1:=(pi.keep (bb v2 gr (cpA (c))) (fun e=>by have e':gi=gr:=e;have:=HG.out;omega))
 have pc3:=pc1.keep (bb _ gt #[U κ 7,U κ (i:Int),U κ c.pc,U κ 0,U κ 0,U κ 0,β false,U κ 0]) (fun e=>by have e':gc=gt:=e;have:=HG.out;omega)
 have pi3:=pi1.keep (bb _ gt #[U κ 7,U κ (i:Int),U κ c.pc,U κ 0,U κ 0,U κ 0,β false,U κ 0]) (fun e=>by have e':gi=gt:=e;have:=HG.out;omega)
 refine wp_region_held (S:=fun w'=>Row w' gc (cpA c) 30∧Row w' gi #[U κ 20,U κ (a:Int),U κ (b:Int),U κ (d:Int),U κ (i:Int)] 69) (by kernel_rfl) ?_
 change wpAnyH _ _ _ _ _ _ _ _ (World.drew _)
 refine wpAnyH_take (i:=0) (v:=.agg (cpL c).toArray) rfl (by kernel_rfl) (by kernel_rfl) (by kernel_rfl) (fun _ _ _ h=>h) (yieldsIf_load_mid (by kernel_rfl) 30 _ rfl gc 0 rfl (cpL c) _ (fun _ h=>dc h.1) Tryz.underlying30 rfl (dw c)) ⟨pc.drew,pi.drew⟩ ?_
 show wpAnyH _ _ _ _ _ _ _ (Act.put _ (some 62) _) _
 simp only[Act.put,sA,sB,sC]
 refine tkQ 1 (v:=?_) rfl (by kernel_rfl) (fun _ _ _ h=>h) (fun w hS=>?_) ⟨pc.drew,pi.drew⟩ ?_
 rotate_left
 ·go_simp
  try with_reducible rfl
 show wpAnyH _ _ _ _ _ _ _ (Act.put _ (some 63) _) _
 simp only[Act.put,sA,sB,sC]
 refine tkQ 2 (v:=?_) rfl (by kernel_rfl) (fun _ _ _ h=>h) (fun w hS=>?_) ⟨pc.drew,pi.drew⟩ ?_
 rotate_left
 ·obtain ⟨x0,x1,x2,x3,x4⟩:=bl hS.2;go_simp
  try with_reducible rfl
 show wpAnyH _ _ _ _ _ _ _ (Act.put _ (some 64) _) _
 simp only[Act.put,sA,sB,sC]
 refine tkQ 3 (v:=?_) rfl (by kernel_rfl) (fun _ _ _ h=>h) (fun w hS=>?_) ⟨pc.drew,pi.drew⟩ ?_
 rotate_left
 ·go_simp
  try with_reducible rfl
 show wpAnyH _ _ _ _ _ _ _ (Act.put _ (some 65) _) _
 simp only[Act.put,sA,sB,sC]
 refine tkQ 4 (v:=?_) rfl (by kernel_rfl) (fun _ _ _ h=>h) (fun w hS=>?_) ⟨pc.drew,pi.drew⟩ ?_
 rotate_left
 ·have yp:=hS.1.pc;go_simp
  try with_reducible rfl
 show wpAnyH _ _ _ _ _ _ _ (Act.put _ (some 66) _) _
 simp only[Act.put,sA,sB,sC]
 refine tkQ 5 (v:=?_) rfl (by kernel_rfl) (fun _ _ _ h=>h) (fun w hS=>?_) ⟨pc.drew,pi.drew⟩ ?_
 rotate_left
 ·go_simp
  try with_reducible rfl
 show wpAnyH _ _ _ _ _ _ _ (Act.put _ (some 67) _) _
 simp only[Act.put,sA,sB,sC]
 refine wpAnyH_all (rs:=[6]) (by kernel_rfl) (by simp) ?_
 intro i hi
 obtain rfl:i=6:=by simpa using hi
 clear hi
 refine ck rfl (by kernel_rfl) ?_
 refine wp_store_row 30 _ _ rfl gr (cpA (c)) rfl rfl 30 _ pr.drew (bk _) (bj _).symm (bw _) ?_
 refine ⟨⟨pc1.drew,pi1.drew⟩,?_⟩
 show wpAnyH _ _ _ _ _ _ _ _ _
 refine wpAnyH_all (rs:=[7]) (by kernel_rfl) (by simp) ?_
 intro i hi
 obtain rfl:i=7:=by simpa using hi
 clear hi
 refine ck rfl (by kernel_rfl) ?_
 refine wp_store_row 52 _ _ rfl gt #[U κ 7,U κ (i:Int),U κ c.pc,U κ 0,U κ 0,U κ 0,β false,U κ 0] rfl rfl 52 _ pt1.drew bn rfl (by simp[Value.oneCell']) ?_
 refine ⟨⟨pc3.drew,pi3.drew⟩,?_⟩
 show wpAnyH _ _ _ _ _ _ _ _ _
 refine wpAnyH_done (by kernel_rfl) ?_ _
 go_wp2_with fail
 refine bodyPost_ret (d8 rfl rfl rfl qr.drew (bj _) qt.drew rfl) rfl ?_
 exact ⟨rfl,HE.out.1.drew,HE.out.2.drew⟩
theorem doth_0 (w:World) (D:Bd) (nf:Nat) (M:Mc) (c:Cp) (_hok:c.Ok) (vm sd fi se:Int) (a b d i:Nat) (_ha:a<16) (_hb:b<16) (_hi:i<65536) (hp:0≤c.pc∧c.pc≤65535) (h:IsMd w D nf M) :
  Calls pQ 37 #[D.a,.agg (cpA c),.agg #[U κ 25,U κ (a:Int),U κ (b:Int),U κ (d:Int),U κ (i:Int)],.agg #[U κ vm,U κ sd,U κ fi,U κ se]] w fun e w'=>e=ρ (τ #[.agg (cpA ((c.setP ((c.pc+4)%65536)))),.agg (trL (t0))])∧Fr D.s w w'∧IsMd w' D nf (M):=by
 unfold Bd.a
 have HL:Hid (∀ k,D.y k→k<w.heap.size):=h.lt
 obtain ⟨v0,gm,gc,gi,gs,gr,gt,hv0,hgm,hgc,hgi,hgs,hgr,hgt,HG,pm,pc,pi,ps,pr,pt,f0⟩:=co w D c 25 a b d i vm sd fi se
 go_enter Tryz.func37,Tryz.ntmps37
 go_upto_region 1 with fail
 rw[←hv0,←hgt,←hgr,←hgs,←hgi,←hgc,←hgm]
 clear hv0 hgm hgc hgi hgs hgr hgt
 have yp:=pc.pc
 have e4:IntKind.i64.wrap (c.pc+4)=c.pc+4:=by rw[IntKind.wrap_i64];omega
 go_wp2_with (refine bh rfl 30 _ rfl gc rfl (cpA c) _ (cq pc) Tryz.underlying30 rfl (bk _) ?_)
 refine(cn _ c (c.pc+4) (by omega)).mono ?_
 rintro e v1 ⟨rfl,f1⟩
 have f01:Fr bg v0 v1:=f1
 replace f1:=f0.trans f1
 have hsz:=f1.size
 have HN0:Hid (gm<v1.heap.size∧gc<v1.heap.size∧gi<v1.heap.size∧gs<v1.heap.size∧gr<v1.heap.size∧gt<v1.heap.size):=(show _∧_ by have:=pm.lt;have:=pc.lt;have:=pi.lt;have:=ps.lt;have:=pr.lt;have:=pt.lt;have:=‹Fr bg v0 v1›.size;omega)
 clear yp e4
 replace pm:=pm.keep f01 (fun h=>h)
 replace pc:=pc.keep f01 (fun h=>h)
 replace pi:=pi.keep f01 (fun h=>h)
 replace ps:=ps.keep f01 (fun h=>h)
 replace pr:=pr.keep f01 (fun h=>h)
 replace pt:=pt.keep f01 (fun h=>h)
 obtain ⟨v2,gn,hv2,hgn,pn,pn2,fa⟩:=nxt v1 ((c.setP ((c.pc+4)%65536)))
 clear f01 f0
 go_upto_region 2 with(refine wpList_store_row rfl 30 _ _ rfl v1.heap.size (cpA (c.setP ((c.pc+4)%65536))) rfl rfl 30 _ pn (bk _) (bj _).symm (bw _) ?_)
 clear pn
 rw[←hv2,←hgn]
 rw[←hgn] at HN0 hsz
 clear hv2 hgn
 replace pm:=pm.keep fa (fun h=>h)
 replace pc:=pc.keep fa (fun h=>h)
 replace pi:=pi.keep fa (fun h=>h)
 replace ps:=ps.keep fa (fun h=>h)
 replace pr:=pr.keep fa (fun h=>h)
 replace pt:=pt.keep fa (fun h=>h)
 replace f1:=f1.trans fa
 have h2:=h.keep0 f1
 have f2:Fr D.s w v2:=di f1
 clear f1 fa h
 have HN:Hid (w.heap.size≤gn):=hsz
 clear hsz
 have pn:=pn2
 clear pn2
 obtain ⟨x0,x1,x2,x3,x4⟩:=bl pi
 clear pm pc pi ps
 have nrt:¬ at' gr gt:=fun e=>by have e':gt=gr:=e;have:=HG.out;omega
 have ntr:¬ at' gt gr:=fun e=>by have e':gr=gt:=e;have:=HG.out;omega
 have pt1:=pt.keep (bb v2 gr (cpA ((c.setP ((c.pc+4)%65536))))) nrt
 have qt:=pt1.setRow (A:=#[U κ 0,U κ 0,U κ 0,U κ 0,U κ 0,U κ 0,β false,U κ 0])
 have qr:=(pr.setRow (A:=cpA ((c.setP ((c.pc+4)%65536))))).keep (bb _ gt #[U κ 0,U κ 0,U κ 0,U κ 0,U κ 0,U κ 0,β false,U κ 0]) ntr
 have HE:Hid (Fr D.s w ((v2.setRow gr (cpA ((c.setP ((c.pc+4)%65536))))).setRow gt #[U κ 0,U κ 0,U κ 0,U κ 0,U κ 0,U κ 0,β false,U κ 0])∧IsMd ((v2.setRow gr (cpA ((c.setP ((c.pc+4)%65536))))).setRow gt #[U κ 0,U κ 0,U κ 0,U κ 0,U κ 0,U κ 0,β false,U κ 0]) D nf _):=⟨bp (bp f2 (g:=gr) (by have:=HG.out;omega) _) (g:=gt) (by have:=HG.out;omega) _,(h2.past (bb _ gr _) (fun k hk=>by have:=HL.out k hk;have:=HG.out;omega)).past (bb _ gt _) (fun k hk=>by have:=HL.out k hk;have:=HG.out;omega)⟩
 go_wp2_with (first | refine bh rfl 30 _ rfl gn rfl (cpA ((c.setP ((c.pc+4)%65536)))) _ (cq pn) Tryz.underlying30 rfl (bk _) ?_ | refine wpList_store_row rfl 30 _ _ rfl gr (cpA ((c.setP ((c.pc+4)%65536)))) rfl rfl 30 _ pr (bk _) (bj _).symm (bw _) ?_ | refine wpList_store_row rfl 52 _ _ rfl gt #[U κ 0,U κ 0,U κ 0,U κ 0,U κ 0,U κ 0,β false,U κ 0] rfl rfl 52 _ pt1 bn rfl (by simp[Value.oneCell']) ?_)
 refine bodyPost_ret (d8 rfl rfl rfl qr (bj _) qt rfl) rfl ?_
 exact ⟨rfl,HE.out⟩
end Go.Proofs.YtibhbjbpodlpiaaGreat
