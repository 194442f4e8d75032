/-
  Contracts over the translation. No statement is proved here.
-/
import Derived.Test.YtibhbjbpodlpiaaGreatQCdP
set_option maxRecDepth 100000
set_option maxHeartbeats 8000000
namespace Go.Proofs.YtibhbjbpodlpiaaGreat
open Go.RowKit
open Go.Value renaming int → U, bool → β, pointer → π, tuple → τ
open Go.IntKind renaming i64 → κ, u32 → μ
open Go.Obj renaming cells → ω
open Go.Ending renaming returned → ρ
open Go.Proofs.Tryz renaming prog → pQ
open List renaming setIfInBounds_toArray → sA, set_cons_succ → sB, set_cons_zero → sC
theorem IsMd.vnone {w:World} {D:Bd} {nf:Nat} {M:Mc} (h:IsMd w D nf M) (hV:M.V=none):D.v=none:=by
 have hv:=h.v
 rw[hV] at hv
 cases hb:D.v with
 | none=>rfl
 | some b=>rw[hb] at hv;exact hv.elim
theorem doth_21n (w:World) (D:Bd) (nf:Nat) (M:Mc) (c:Cp) (_hok:c.Ok) (vm sd fi se:Int) (a b d i:Nat) (_ha:a<16) (_hb:b<16) (_hi:i<65536) (hp:0≤c.pc∧c.pc≤65535) (h:IsMd w D nf M) (hV:M.V=none) :
  Calls pQ 37 #[D.a,.agg (cpA c),.agg #[U κ 21,U κ (a:Int),U κ (b:Int),U κ (d:Int),U κ (i:Int)],.agg #[U κ vm,U κ sd,U κ fi,U κ se]] w fun e w'=>e=ρ (τ #[.agg (cpA (c)),.agg (trL (⟨9,0,c.pc,f0⟩))])∧Fr D.s w w'∧IsMd w' D nf (M):=by
 have HB:Hid (D.v=none):=h.vnone hV
 clear hV
 unfold Bd.a
 have HL:Hid (∀ k,D.y k→k<w.heap.size):=h.lt
 obtain ⟨v0,gm,gc,gi,gs,gr,gt,hv0,hgm,hgc,hgi,hgs,hgr,hgt,HG,pm,pc,pi,ps,pr,pt,f0⟩:=co w D c 21 a b d i vm sd fi se
 go_enter Tryz.func37,Tryz.ntmps37
 go_upto_region 1 with fail
 rw[←hv0,←hgt,←hgr,←hgs,←hgi,←hgc,←hgm]
 clear hv0 hgm hgc hgi hgs hgr hgt
 have yp:=pc.pc
 have e4:IntKind.i64.wrap (c.pc+4)=c.pc+4:=by rw[IntKind.wrap_i64];omega
 go_wp2_with (refine bh rfl 30 _ rfl gc rfl (cpA c) _ (cq pc) Tryz.underlying30 rfl (bk _) ?_)
 refine(cn _ c (c.pc+4) (by omega)).mono ?_
 rintro e v1 ⟨rfl,f1⟩
 have f01:Fr bg v0 v1:=f1
 replace f1:=f0.trans f1
 have hsz:=f1.size
 have HN0:Hid (gm<v1.heap.size∧gc<v1.heap.size∧gi<v1.heap.size∧gs<v1.heap.size∧gr<v1.heap.size∧gt<v1.heap.size):=(show _∧_ by have:=pm.lt;have:=pc.lt;have:=pi.lt;have:=ps.lt;have:=pr.lt;have:=pt.lt;have:=‹Fr bg v0 v1›.size;omega)
 clear yp e4
 replace pm:=pm.keep f01 (fun h=>h)
 replace pc:=pc.keep f01 (fun h=>h)
 replace pi:=pi.keep f01 (fun h=>h)
 replace ps:=ps.keep f01 (fun h=>h)
 replace pr:=pr.keep f01 (fun h=>h)
 replace pt:=pt.keep f01 (fun h=>h)
 obtain ⟨v2,gn,hv2,hgn,pn,pn2,fa⟩:=nxt v1 ((c.setP ((c.pc+4)%65536)))
 clear f01 f0
 go_upto_region 2 with(refine wpList_store_row rfl 30 _ _ rfl v1.heap.size (cpA (c.setP ((c.pc+4)%65536))) rfl rfl 30 _ pn (bk _) (bj _).symm (bw _) ?_)
 clear pn
 rw[←hv2,←hgn]
 rw[←hgn] at HN0 hsz
 clear hv2 hgn
 replace pm:=pm.keep fa (fun h=>h)
 replace pc:=pc.keep fa (fun h=>h)
 replace pi:=pi.keep fa (fun h=>h)
 replace ps:=ps.keep fa (fun h=>h)
 replace pr:=pr.keep fa (fun h=>h)
 replace pt:=pt.keep fa (fun h=>h)
 replace f1:=f1.trans fa
 have h2:=h.keep0 f1
 have f2:Fr D.s w v2:=di f1
 clear f1 fa h
 have HN:Hid (w.heap.size≤gn):=hsz
 clear hsz
 have pn:=pn2
 clear pn2
 obtain ⟨x0,x1,x2,x3,x4⟩:=bl pi
 have m2:v2.cell? ⟨gm,2,none⟩=some (π none):=by rw[pm.cell,HB.out];rfl
 clear ps pn pm
 go_upto_region 22 with fail
 clear m2
 have nrt:¬ at' gr gt:=fun e=>by have e':gt=gr:=e;have:=HG.out;omega
 have ntr:¬ at' gt gr:=fun e=>by have e':gr=gt:=e;have:=HG.out;omega
 have pt1:=pt.keep (bb v2 gr (cpA (c))) nrt
 have qt:=pt1.setRow (A:=#[U κ 9,U κ 0,U κ c.pc,U κ 0,U κ 0,U κ 0,β false,U κ 0])
 have qr:=(pr.setRow (A:=cpA (c))).keep (bb _ gt #[U κ 9,U κ 0,U κ c.pc,U κ 0,U κ 0,U κ 0,β false,U κ 0]) ntr
 have HE:Hid (Fr D.s w ((v2.setRow gr (cpA (c))).setRow gt #[U κ 9,U κ 0,U κ c.pc,U κ 0,U κ 0,U κ 0,β false,U κ 0])∧IsMd ((v2.setRow gr (cpA (c))).setRow gt #[U κ 9,U κ 0,U κ c.pc,U κ 0,U κ 0,U κ 0,β false,U κ 0]) D nf _):=⟨bp (bp f2 (g:=gr) (by have:=HG.out;omega) _) (g:=gt) (by have:=HG.out;omega) _,(h2.past (bb _ gr _) (fun k hk=>by have:=HL.out k hk;have:=HG.out;omega)).past (bb _ gt _) (fun k hk=>by have:=HL.out k hk;have:=HG.out;omega)⟩
 have pc1:=(pc.keep (bb v2 gr (cpA (c))) (fun e=>by have e':gc=gr:=e;have:=HG.out;omega))
 have pi1:=(pi.keep (bb v2 gr (cpA (c))) (fun e=>by have e':gi=gr:=e;have:=HG.out;omega))
 have pc3:=pc1.keep (bb _ gt #[U κ 9,U κ 0,U κ c.pc,U κ 0,U κ 0,U κ 0,β false,U κ 0]) (fun e=>by have e':gc=gt:=e;have:=HG.out;omega)
 have pi3:=pi1.keep (bb _ gt #[U κ 9,U κ 0,U κ c.pc,U κ 0,U κ 0,U κ 0,β false,U κ 0]) (fun e=>by have e':gi=gt:=e;have:=HG.out;omega)
 refine wp_region_held (S:=fun w'=>Row w' gc (cpA c) 30∧Row w' gi #[U κ 21,U κ (a:Int),U κ (b:Int),U κ (d:Int),U κ (i:Int)] 69) (by kernel_rfl) ?_
 change wpAnyH _ _ _ _ _ _ _ _ (World.drew _)
 refine wpAnyH_take (i:=0) (v:=.agg (cpL c).toArray) rfl (by kernel_rfl) (by kernel_rfl) (by kernel_rfl) (fun _ _ _ h=>h) (yieldsIf_load_mid (by kernel_rfl) 30 _ rfl gc 0 rfl (cpL c) _ (fun _ h=>dc h.1) Tryz.underlying30 rfl (dw c)) ⟨pc.drew,pi.drew⟩ ?_
 show wpAnyH _ _ _ _ _ _ _ (Act.put _ (some 103) _) _
 simp only[Act.put,sA,sB,sC]
 refine tkQ 1 (v:=?_) rfl (by kernel_rfl) (fun _ _ _ h=>h) (fun w hS=>?_) ⟨pc.drew,pi.drew⟩ ?_
 rotate_left
 ·go_simp
  try with_reducible rfl
 show wpAnyH _ _ _ _ _ _ _ (Act.put _ (some 104) _) _
 simp only[Act.put,sA,sB,sC]
 refine tkQ 2 (v:=?_) rfl (by kernel_rfl) (fun _ _ _ h=>h) (fun w hS=>?_) ⟨pc.drew,pi.drew⟩ ?_
 rotate_left
 ·have yp:=hS.1.pc;go_simp
  try with_reducible rfl
 show wpAnyH _ _ _ _ _ _ _ (Act.put _ (some 105) _) _
 simp only[Act.put,sA,sB,sC]
 refine tkQ 3 (v:=?_) rfl (by kernel_rfl) (fun _ _ _ h=>h) (fun w hS=>?_) ⟨pc.drew,pi.drew⟩ ?_
 rotate_left
 ·go_simp
  try with_reducible rfl
 show wpAnyH _ _ _ _ _ _ _ (Act.put _ (some 106) _) _
 simp only[Act.put,sA,sB,sC]
 refine wpAnyH_all (rs:=[4]) (by kernel_rfl) (by simp) ?_
 intro i hi
 obtain rfl:i=4:=by simpa using hi
 clear hi
 refine ck rfl (by kernel_rfl) ?_
 refine wp_store_row 30 _ _ rfl gr (cpA (c)) rfl rfl 30 _ pr.drew (bk _) (bj _).symm (bw _) ?_
 refine ⟨⟨pc1.drew,pi1.drew⟩,?_⟩
 show wpAnyH _ _ _ _ _ _ _ _ _
 refine wpAnyH_all (rs:=[5]) (by kernel_rfl) (by simp) ?_
 intro i hi
 obtain rfl:i=5:=by simpa using hi
 clear hi
 refine ck rfl (by kernel_rfl) ?_
 refine wp_store_row 52 _ _ rfl gt #[U κ 9,U κ 0,U κ c.pc,U κ 0,U κ 0,U κ 0,β false,U κ 0] rfl rfl 52 _ pt1.drew bn rfl (by simp[Value.oneCell']) ?_
 refine ⟨⟨pc3.drew,pi3.drew⟩,?_⟩
 show wpAnyH _ _ _ _ _ _ _ _ _
 refine wpAnyH_done (by kernel_rfl) ?_ _
 go_wp2_with fail
 refine bodyPost_ret (d8 rfl rfl rfl qr.drew (bj _) qt.drew rfl) rfl ?_
 exact ⟨rfl,HE.out.1.drew,HE.out.2.drew⟩
theorem doth_21f (w:World) (D:Bd) (nf:Nat) (M:Mc) (c:Cp) (_hok:c.Ok) (vm sd fi se:Int) (a b d i:Nat) (_ha:a<16) (_hb:b<16) (_hi:i<65536) (hp:0≤c.pc∧c.pc≤65535) (h:IsMd w D nf M) {S:Vg} (hV:M.V=some S) (hq:(mw S).isSome=false) :
  Calls pQ 37 #[D.a,.agg (cpA c),.agg #[U κ 21,U κ (a:Int),U κ (b:Int),U κ (d:Int),U κ (i:Int)],.agg #[U κ vm,U κ sd,U κ fi,U κ se]] w fun e w'=>e=ρ (τ #[.agg (cpA (c)),.agg (trL (⟨9,0,c.pc,f0⟩))])∧Fr D.s w w'∧IsMd w' D nf (M):=by
 obtain ⟨bv,hb',_⟩:=h.some hV
 have HB:Hid (D.v=some bv):=hb'
 have HV:Hid (M.V=some S):=hV
 clear hb' hV
 unfold Bd.a
 have HL:Hid (∀ k,D.y k→k<w.heap.size):=h.lt
 obtain ⟨v0,gm,gc,gi,gs,gr,gt,hv0,hgm,hgc,hgi,hgs,hgr,hgt,HG,pm,pc,pi,ps,pr,pt,f0⟩:=co w D c 21 a b d i vm sd fi se
 go_enter Tryz.func37,Tryz.ntmps37
 go_upto_region 1 with fail
 rw[←hv0,←hgt,←hgr,←hgs,←hgi,←hgc,←hgm]
 clear hv0 hgm hgc hgi hgs hgr hgt
 have yp:=pc.pc
 have e4:IntKind.i64.wrap (c.pc+4)=c.pc+4:=by rw[IntKind.wrap_i64];omega
 go_wp2_with (refine bh rfl 30 _ rfl gc rfl (cpA c) _ (cq pc) Tryz.underlying30 rfl (bk _) ?_)
 refine(cn _ c (c.pc+4) (by omega)).mono ?_
 rintro e v1 ⟨rfl,f1⟩
 have f01:Fr bg v0 v1:=f1
 replace f1:=f0.trans f1
 have hsz:=f1.size
 have HN0:Hid (gm<v1.heap.size∧gc<v1.heap.size∧gi<v1.heap.size∧gs<v1.heap.size∧gr<v1.heap.size∧gt<v1.heap.size):=(show _∧_ by have:=pm.lt;have:=pc.lt;have:=pi.lt;have:=ps.lt;have:=pr.lt;have:=pt.lt;have:=‹Fr bg v0 v1›.size;omega)
 clear yp e4
 replace pm:=pm.keep f01 (fun h=>h)
 replace pc:=pc.keep f01 (fun h=>h)
 replace pi:=pi.keep f01 (fun h=>h)
 replace ps:=ps.keep f01 (fun h=>h)
 replace pr:=pr.keep f01 (fun h=>h)
 replace pt:=pt.keep f01 (fun h=>h)
 obtain ⟨v2,gn,hv2,hgn,pn,pn2,fa⟩:=nxt v1 ((c.setP ((c.pc+4)%65536)))
 clear f01 f0
 go_upto_region 2 with(refine wpList_store_row rfl 30 _ _ rfl v1.heap.size (cpA (c.setP ((c.pc+4)%65536))) rfl rfl 30 _ pn (bk _) (bj _).symm (bw _) ?_)
 clear pn
 rw[←hv2,←hgn]
 rw[←hgn] at HN0 hsz
 clear hv2 hgn
 replace pm:=pm.keep fa (fun h=>h)
 replace pc:=pc.keep fa (fun h=>h)
 replace pi:=pi.keep fa (fun h=>h)
 replace ps:=ps.keep fa (fun h=>h)
 replace pr:=pr.keep fa (fun h=>h)
 replace pt:=pt.keep fa (fun h=>h)
 replace f1:=f1.trans fa
 have h2:=h.keep0 f1
 have f2:Fr D.s w v2:=di f1
 clear f1 fa h
 have HN:Hid (w.heap.size≤gn):=hsz
 clear hsz
 have pn:=pn2
 clear pn2
 obtain ⟨x0,x1,x2,x3,x4⟩:=bl pi
 have m2:v2.cell? ⟨gm,2,none⟩=some (π (some ⟨bv,0,none⟩)):=by rw[pm.cell,HB.out];rfl
 have HS:∀ w1,IsMd w1 D nf M→Calls pQ 89 #[π (some ⟨bv,0,none⟩)] w1 fun e w'=>e=ρ (τ #[U κ (nId (mw S)),β false])∧Fr bg w1 w':=fun w1 h1=>by
  have hv:=h1.v
  rw[HV.out,HB.out] at hv
  obtain ⟨⟨T,hT,hR⟩,hg⟩:=hv
  have:=w8 w1 bv T S hT hR
  rwa [hq] at this
 clear hq ps pm
 go_wp2_with fail
 refine(HS v2 h2).mono ?_
 rintro e v4 ⟨rfl,f4⟩
 have h4:=h2.keep0 f4
 replace pr:=pr.keep f4 (fun h=>h)
 replace pt:=pt.keep f4 (fun h=>h)
 replace pn:=pn.keep f4 (fun h=>h)
 replace pc:=pc.keep f4 (fun h=>h)
 replace pi:=pi.keep f4 (fun h=>h)
 replace f4:=f2.trans (di f4)
 clear m2 HS x0 x1 x2 x3 x4
 clear pn
 go_upto_region 22 with fail
 have nrt:¬ at' gr gt:=fun e=>by have e':gt=gr:=e;have:=HG.out;omega
 have ntr:¬ at' gt gr:=fun e=>by have e':gr=gt:=e;have:=HG.out;omega
 have pt1:=pt.keep (bb v4 gr (cpA (c))) nrt
 have qt:=pt1.setRow (A:=#[U κ 9,U κ 0,U κ c.pc,U κ 0,U κ 0,U κ 0,β false,U κ 0])
 have qr:=(pr.setRow (A:=cpA (c))).keep (bb _ gt #[U κ 9,U κ 0,U κ c.pc,U κ 0,U κ 0,U κ 0,β false,U κ 0]) ntr
 have HE:Hid (Fr D.s w ((v4.setRow gr (cpA (c))).setRow gt #[U κ 9,U κ 0,U κ c.pc,U κ 0,U κ 0,U κ 0,β false,U κ 0])∧IsMd ((v4.setRow gr (cpA (c))).setRow gt #[U κ 9,U κ 0,U κ c.pc,U κ 0,U κ 0,U κ 0,β false,U κ 0]) D nf _):=⟨bp (bp f4 (g:=gr) (by have:=HG.out;omega) _) (g:=gt) (by have:=HG.out;omega) _,(h4.past (bb _ gr _) (fun k hk=>by have:=HL.out k hk;have:=HG.out;omega)).past (bb _ gt _) (fun k hk=>by have:=HL.out k hk;have:=HG.out;omega)⟩
 have pc1:=(pc.keep (bb v4 gr (cpA (c))) (fun e=>by have e':gc=gr:=e;have:=HG.out;omega))
 have pi1:=(pi.keep (bb v4 gr (cpA (c))) (fun e=>by have e':gi=gr:=e;have:=HG.out;omega))
 have pc3:=pc1.keep (bb _ gt #[U κ 9,U κ 0,U κ c.pc,U κ 0,U κ 0,U κ 0,β false,U κ 0]) (fun e=>by have e':gc=gt:=e;have:=HG.out;omega)
 have pi3:=pi1.keep (bb _ gt #[U κ 9,U κ 0,U κ c.pc,U κ 0,U κ 0,U κ 0,β false,U κ 0]) (fun e=>by have e':gi=gt:=e;have:=HG.out;omega)
 refine wp_region_held (S:=fun w'=>Row w' gc (cpA c) 30∧Row w' gi #[U κ 21,U κ (a:Int),U κ (b:Int),U κ (d:Int),U κ (i:Int)] 69) (by kernel_rfl) ?_
 change wpAnyH _ _ _ _ _ _ _ _ (World.drew _)
 refine wpAnyH_take (i:=0) (v:=.agg (cpL c).toArray) rfl (by kernel_rfl) (by kernel_rfl) (by kernel_rfl) (fun _ _ _ h=>h) (yieldsIf_load_mid (by kernel_rfl) 30 _ rfl gc 0 rfl (cpL c) _ (fun _ h=>dc h.1) Tryz.underlying30 rfl (dw c)) ⟨pc.drew,pi.drew⟩ ?_
 show wpAnyH _ _ _ _ _ _ _ (Act.put _ (some 103) _) _
 simp only[Act.put,sA,sB,sC]
 refine tkQ 1 (v:=?_) rfl (by kernel_rfl) (fun _ _ _ h=>h) (fun w hS=>?_) ⟨pc.drew,pi.drew⟩ ?_
 rotate_left
 ·go_simp
  try with_reducible rfl
 show wpAnyH _ _ _ _ _ _ _ (Act.put _ (some 104) _) _
 simp only[Act.put,sA,sB,sC]
 refine tkQ 2 (v:=?_) rfl (by kernel_rfl) (fun _ _ _ h=>h) (fun w hS=>?_) ⟨pc.drew,pi.drew⟩ ?_
 rotate_left
 ·have yp:=hS.1.pc;go_simp
  try with_reducible rfl
 show wpAnyH _ _ _ _ _ _ _ (Act.put _ (some 105) _) _
 simp only[Act.put,sA,sB,sC]
 refine tkQ 3 (v:=?_) rfl (by kernel_rfl) (fun _ _ _ h=>h) (fun w hS=>?_) ⟨pc.drew,pi.drew⟩ ?_
 rotate_left
 ·go_simp
  try with_reducible rfl
 show wpAnyH _ _ _ _ _ _ _ (Act.put _ (some 106) _) _
 simp only[Act.put,sA,sB,sC]
 refine wpAnyH_all (rs:=[4]) (by kernel_rfl) (by simp) ?_
 intro i hi
 obtain rfl:i=4:=by simpa using hi
 clear hi
 refine ck rfl (by kernel_rfl) ?_
 refine wp_store_row 30 _ _ rfl gr (cpA (c)) rfl rfl 30 _ pr.drew (bk _) (bj _).symm (bw _) ?_
 refine ⟨⟨pc1.drew,pi1.drew⟩,?_⟩
 show wpAnyH _ _ _ _ _ _ _ _ _
 refine wpAnyH_all (rs:=[5]) (by kernel_rfl) (by simp) ?_
 intro i hi
 obtain rfl:i=5:=by simpa using hi
 clear hi
 refine ck rfl (by kernel_rfl) ?_
 refine wp_store_row 52 _ _ rfl gt #[U κ 9,U κ 0,U κ c.pc,U κ 0,U κ 0,U κ 0,β false,U κ 0] rfl rfl 52 _ pt1.drew bn rfl (by simp[Value.oneCell']) ?_
 refine ⟨⟨pc3.drew,pi3.drew⟩,?_⟩
 show wpAnyH _ _ _ _ _ _ _ _ _
 refine wpAnyH_done (by kernel_rfl) ?_ _
 go_wp2_with fail
 refine bodyPost_ret (d8 rfl rfl rfl qr.drew (bj _) qt.drew rfl) rfl ?_
 exact ⟨rfl,HE.out.1.drew,HE.out.2.drew⟩
theorem doth_21t (w:World) (D:Bd) (nf:Nat) (M:Mc) (c:Cp) (_hok:c.Ok) (vm sd fi se:Int) (a b d i:Nat) (_ha:a<16) (_hb:b<16) (_hi:i<65536) (hp:0≤c.pc∧c.pc≤65535) (h:IsMd w D nf M) {S:Vg} (hV:M.V=some S) (hq:(mw S).isSome=true) :
  Calls pQ 37 #[D.a,.agg (cpA c),.agg #[U κ 21,U κ (a:Int),U κ (b:Int),U κ (d:Int),U κ (i:Int)],.agg #[U κ vm,U κ sd,U κ fi,U κ se]] w fun e w'=>e=ρ (τ #[.agg (cpA ((c.setP ((c.pc+4)%65536)))),.agg (trL (t0))])∧Fr D.s w w'∧IsMd w' D nf (M):=by
 obtain ⟨bv,hb',_⟩:=h.some hV
 have HB:Hid (D.v=some bv):=hb'
 have HV:Hid (M.V=some S):=hV
 clear hb' hV
 unfold Bd.a
 have HL:Hid (∀ k,D.y k→k<w.heap.size):=h.lt
 obtain ⟨v0,gm,gc,gi,gs,gr,gt,hv0,hgm,hgc,hgi,hgs,hgr,hgt,HG,pm,pc,pi,ps,pr,pt,f0⟩:=co w D c 21 a b d i vm sd fi se
 go_enter Tryz.func37,Tryz.ntmps37
 go_upto_region 1 with fail
 rw[←hv0,←hgt,←hgr,←hgs,←hgi,←hgc,←hgm]
 clear hv0 hgm hgc hgi hgs hgr hgt
 have yp:=pc.pc
 have e4:IntKind.i64.wrap (c.pc+4)=c.pc+4:=by rw[IntKind.wrap_i64];omega
 go_wp2_with (refine bh rfl 30 _ rfl gc rfl (cpA c) _ (cq pc) Tryz.underlying30 rfl (bk _) ?_)
 refine(cn _ c (c.pc+4) (by omega)).mono ?_
 rintro e v1 ⟨rfl,f1⟩
 have f01:Fr bg v0 v1:=f1
 replace f1:=f0.trans f1
 have hsz:=f1.size
 have HN0:Hid (gm<v1.heap.size∧gc<v1.heap.size∧gi<v1.heap.size∧gs<v1.heap.size∧gr<v1.heap.size∧gt<v1.heap.size):=(show _∧_ by have:=pm.lt;have:=pc.lt;have:=pi.lt;have:=ps.lt;have:=pr.lt;have:=pt.lt;have:=‹Fr bg v0 v1›.size;omega)
 clear yp e4
 replace pm:=pm.keep f01 (fun h=>h)
 replace pc:=pc.keep f01 (fun h=>h)
 replace pi:=pi.keep f01 (fun h=>h)
 replace ps:=ps.keep f01 (fun h=>h)
 replace pr:=pr.keep f01 (fun h=>h)
 replace pt:=pt.keep f01 (fun h=>h)
 obtain ⟨v2,gn,hv2,hgn,pn,pn2,fa⟩:=nxt v1 ((c.setP ((c.pc+4)%65536)))
 clear f01 f0
 go_upto_region 2 with(refine wpList_store_row rfl 30 _ _ rfl v1.heap.size (cpA (c.setP ((c.pc+4)%65536))) rfl rfl 30 _ pn (bk _) (bj _).symm (bw _) ?_)
 clear pn
 rw[←hv2,←hgn]
 rw[←hgn] at HN0 hsz
 clear hv2 hgn
 replace pm:=pm.keep fa (fun h=>h)
 replace pc:=pc.keep fa (fun h=>h)
 replace pi:=pi.keep fa (fun h=>h)
 replace ps:=ps.keep fa (fun h=>h)
 replace pr:=pr.keep fa (fun h=>h)
 replace pt:=pt.keep fa (fun h=>h)
 replace f1:=f1.trans fa
 have h2:=h.keep0 f1
 have f2:Fr D.s w v2:=di f1
 clear f1 fa h
 have HN:Hid (w.heap.size≤gn):=hsz
 clear hsz
 have pn:=pn2
 clear pn2
 obtain ⟨x0,x1,x2,x3,x4⟩:=bl pi
 have m2:v2.cell? ⟨gm,2,none⟩=some (π (some ⟨bv,0,none⟩)):=by rw[pm.cell,HB.out];rfl
 have HS:∀ w1,IsMd w1 D nf M→Calls pQ 89 #[π (some ⟨bv,0,none⟩)] w1 fun e w'=>e=ρ (τ #[U κ (nId (mw S)),β true])∧Fr bg w1 w':=fun w1 h1=>by
  have hv:=h1.v
  rw[HV.out,HB.out] at hv
  obtain ⟨⟨T,hT,hR⟩,hg⟩:=hv
  have:=w8 w1 bv T S hT hR
  rwa [hq] at this
 clear hq ps pm
 go_wp2_with fail
 refine(HS v2 h2).mono ?_
 rintro e v4 ⟨rfl,f4⟩
 have h4:=h2.keep0 f4
 replace pr:=pr.keep f4 (fun h=>h)
 replace pt:=pt.keep f4 (fun h=>h)
 replace pn:=pn.keep f4 (fun h=>h)
 replace pc:=pc.keep f4 (fun h=>h)
 replace pi:=pi.keep f4 (fun h=>h)
 replace f4:=f2.trans (di f4)
 clear m2 HS x0 x1 x2 x3 x4
 clear pc pi
 have nrt:¬ at' gr gt:=fun e=>by have e':gt=gr:=e;have:=HG.out;omega
 have ntr:¬ at' gt gr:=fun e=>by have e':gr=gt:=e;have:=HG.out;omega
 have pt1:=pt.keep (bb v4 gr (cpA ((c.setP ((c.pc+4)%65536))))) nrt
 have qt:=pt1.setRow (A:=#[U κ 0,U κ 0,U κ 0,U κ 0,U κ 0,U κ 0,β false,U κ 0])
 have qr:=(pr.setRow (A:=cpA ((c.setP ((c.pc+4)%65536))))).keep (bb _ gt #[U κ 0,U κ 0,U κ 0,U κ 0,U κ 0,U κ 0,β false,U κ 0]) ntr
 have HE:Hid (Fr D.s w ((v4.setRow gr (cpA ((c.setP ((c.pc+4)%65536))))).setRow gt #[U κ 0,U κ 0,U κ 0,U κ 0,U κ 0,U κ 0,β false,U κ 0])∧IsMd ((v4.setRow gr (cpA ((c.setP ((c.pc+4)%65536))))).setRow gt #[U κ 0,U κ 0,U κ 0,U κ 0,U κ 0,U κ 0,β false,U κ 0]) D nf _):=⟨bp (bp f4 (g:=gr) (by have:=HG.out;omega) _) (g:=gt) (by have:=HG.out;omega) _,(h4.past (bb _ gr _) (fun k hk=>by have:=HL.out k hk;have:=HG.out;omega)).past (bb _ gt _) (fun k hk=>by have:=HL.out k hk;have:=HG.out;omega)⟩
 go_wp2_with (first | refine bh rfl 30 _ rfl gn rfl (cpA ((c.setP ((c.pc+4)%65536)))) _ (cq pn) Tryz.underlying30 rfl (bk _) ?_ | refine wpList_store_row rfl 30 _ _ rfl gr (cpA ((c.setP ((c.pc+4)%65536)))) rfl rfl 30 _ pr (bk _) (bj _).symm (bw _) ?_ | refine wpList_store_row rfl 52 _ _ rfl gt #[U κ 0,U κ 0,U κ 0,U κ 0,U κ 0,U κ 0,β false,U κ 0] rfl rfl 52 _ pt1 bn rfl (by simp[Value.oneCell']) ?_)
 refine bodyPost_ret (d8 rfl rfl rfl qr (bj _) qt rfl) rfl ?_
 exact ⟨rfl,HE.out⟩
theorem doth_23 (w:World) (D:Bd) (nf:Nat) (M:Mc) (c:Cp) (hok:c.Ok) (vm sd fi se:Int) (a b d i:Nat) (_ha:a<16) (hb:b<16) (_hi:i<65536) (hp:0≤c.pc∧c.pc≤65535) (h:IsMd w D nf M) {S:Vg} (hV:M.V=some S) (hq:endF S ((min (c.r b) 64:Nat):Int)=false) :
  Calls pQ 37 #[D.a,.agg (cpA c),.agg #[U κ 23,U κ (a:Int),U κ (b:Int),U κ (d:Int),U κ (i:Int)],.agg #[U κ vm,U κ sd,U κ fi,U κ se]] w fun e w'=>e=ρ (τ #[.agg (cpA ((c.setP ((c.pc+4)%65536)))),.agg (trL (t0))])∧Fr D.s w w'∧IsMd w' D nf ({ M with V:=some (endS S ((min (c.r b) 64:Nat):Int)) }):=by
 obtain ⟨bv,hb',_⟩:=h.some hV
 have HB:Hid (D.v=some bv):=hb'
 have HV:Hid (M.V=some S):=hV
 clear hb' hV
 unfold Bd.a
 have HL:Hid (∀ k,D.y k→k<w.heap.size):=h.lt
 obtain ⟨v0,gm,gc,gi,gs,gr,gt,hv0,hgm,hgc,hgi,hgs,hgr,hgt,HG,pm,pc,pi,ps,pr,pt,f0⟩:=co w D c 23 a b d i vm sd fi se
 go_enter Tryz.func37,Tryz.ntmps37
 go_upto_region 1 with fail
 rw[←hv0,←hgt,←hgr,←hgs,←hgi,←hgc,←hgm]
 clear hv0 hgm hgc hgi hgs hgr hgt
 have yp:=pc.pc
 have e4:IntKind.i64.wrap (c.pc+4)=c.pc+4:=by rw[IntKind.wrap_i64];omega
 go_wp2_with (refine bh rfl 30 _ rfl gc rfl (cpA c) _ (cq pc) Tryz.underlying30 rfl (bk _) ?_)
 refine(cn _ c (c.pc+4) (by omega)).mono ?_
 rintro e v1 ⟨rfl,f1⟩
 have f01:Fr bg v0 v1:=f1
 replace f1:=f0.trans f1
 have hsz:=f1.size
 have HN0:Hid (gm<v1.heap.size∧gc<v1.heap.size∧gi<v1.heap.size∧gs<v1.heap.size∧gr<v1.heap.size∧gt<v1.heap.size):=(show _∧_ by have:=pm.lt;have:=pc.lt;have:=pi.lt;have:=ps.lt;have:=pr.lt;have:=pt.lt;have:=‹Fr bg v0 v1›.size;omega)
 clear yp e4
 replace pm:=pm.keep f01 (fun h=>h)
 replace pc:=pc.keep f01 (fun h=>h)
 replace pi:=pi.keep f01 (fun h=>h)
 replace ps:=ps.keep f01 (fun h=>h)
 replace pr:=pr.keep f01 (fun h=>h)
 replace pt:=pt.keep f01 (fun h=>h)
 obtain ⟨v2,gn,hv2,hgn,pn,pn2,fa⟩:=nxt v1 ((c.setP ((c.pc+4)%65536)))
 clear f01 f0
 go_upto_region 2 with(refine wpList_store_row rfl 30 _ _ rfl v1.heap.size (cpA (c.setP ((c.pc+4)%65536))) rfl rfl 30 _ pn (bk _) (bj _).symm (bw _) ?_)
 clear pn
 rw[←hv2,←hgn]
 rw[←hgn] at HN0 hsz
 clear hv2 hgn
 replace pm:=pm.keep fa (fun h=>h)
 replace pc:=pc.keep fa (fun h=>h)
 replace pi:=pi.keep fa (fun h=>h)
 replace ps:=ps.keep fa (fun h=>h)
 replace pr:=pr.keep fa (fun h=>h)
 replace pt:=pt.keep fa (fun h=>h)
 replace f1:=f1.trans fa
 have h2:=h.keep0 f1
 have f2:Fr D.s w v2:=di f1
 clear f1 fa h
 have HN:Hid (w.heap.size≤gn):=hsz
 clear hsz
 have pn:=pn2
 clear pn2
 obtain ⟨x0,x1,x2,x3,x4⟩:=bl pi
 have HMN:Hid ((if (64:Int)<((c.r b:Nat):Int) then(64:Int) else((c.r b:Nat):Int))=((min (c.r b) 64:Nat):Int)):=min_u (c.r b) 64
 obtain ⟨y,hy⟩:∃ y:Nat,min (c.r b) 64=y:=⟨_,rfl⟩
 have hrb:=hok.r b
 have ib:0≤(b:Int)∧(b:Int)<16:=by omega
 rw[hy] at HMN hq
 have HS:∀ w1 (q:Int),q=(y:Int)→IsMd w1 D nf M→Calls pQ 91 #[π (some ⟨bv,0,none⟩),U κ q] w1 fun e w'=>e=ρ (τ #[β false,U κ (endE S (y:Int))])∧Fr (at' bv) w1 w'∧IsMd w' D nf { M with V:=some (endS S ((min (c.r b) 64:Nat):Int)) }:=fun w1 q hq2 h1=>by
  subst hq2
  have hv:=h1.v
  rw[HV.out,HB.out] at hv
  exact(rend_any w1 bv S hv (y:Int)).mono fun e w' ⟨he,f,q⟩=>⟨by rw[he,hq],f,by rw[hy];exact h1.vg HB.out f q⟩
 rw[HB.out] at pm
 clear hq hy
 have NN:Hid (gm≠bv∧gi≠bv∧gc≠bv∧gr≠bv∧gt≠bv∧gn≠bv):=(show _∧_ by have:=HL.out bv (Or.inl (Or.inr (Or.inr HB.out)));have:=HG.out;have:=HN.out;omega)
 clear ps x1 x2 x3 x4
 go_upto_region 26 with fail
 clear x0
 have h3d:=h2.drew
 rcases Decidable.em ((64:Int)<((c.r b:Nat):Int)) with hq | hq
 all_goals
  go_region_held3 (fun w'=>w'.cell? ⟨gm,2,none⟩=some (π (some ⟨bv,0,none⟩))∧w'.cell? ⟨gi,2,none⟩=some (U κ (b:Int))∧w'.cell? ⟨gc,b,none⟩=some (U μ ((c.r b:Nat):Int))) (first | with_reducible exact ⟨pm.cell 2,pi.cell 2,pc.rg hb⟩ | exact ⟨pm.cell 2,pi.cell 2,pc.rg hb⟩) (first | (go_at_call 91;refine(HS _ _ (by have hh:=HMN.out;first | (rw[hh,IntKind.wrap_i64];split at hh <;> omega) | (rw[IntKind.wrap_i64];split at hh <;> omega) | (split at hh <;> omega)) h3d).mono ?_;rintro e v4 ⟨rfl,f4,h4⟩;replace f4:=ks f4;replace pm:=pm.keep f4 (fun e=>NN.out.1 e);replace pi:=pi.keep f4 (fun e=>NN.out.2.1 e);replace pc:=pc.keep f4 (fun e=>NN.out.2.2.1 e)))
  clear hq
  replace pr:=pr.keep f4 (fun e=>NN.out.2.2.2.1 e)
  replace pt:=pt.keep f4 (fun e=>NN.out.2.2.2.2.1 e)
  replace pn:=pn.keep f4 (fun e=>NN.out.2.2.2.2.2 e)
  replace f4:=f2.trans (frd_v HB.out f4)
  clear h3d h2 f2 pm HS
  clear pc pi
  have nrt:¬ at' gr gt:=fun e=>by have e':gt=gr:=e;have:=HG.out;omega
  have ntr:¬ at' gt gr:=fun e=>by have e':gr=gt:=e;have:=HG.out;omega
  have pt1:=pt.keep (bb v4 gr (cpA ((c.setP ((c.pc+4)%65536))))) nrt
  have qt:=pt1.setRow (A:=#[U κ 0,U κ 0,U κ 0,U κ 0,U κ 0,U κ 0,β false,U κ 0])
  have qr:=(pr.setRow (A:=cpA ((c.setP ((c.pc+4)%65536))))).keep (bb _ gt #[U κ 0,U κ 0,U κ 0,U κ 0,U κ 0,U κ 0,β false,U κ 0]) ntr
  have HE:Hid (Fr D.s w ((v4.setRow gr (cpA ((c.setP ((c.pc+4)%65536))))).setRow gt #[U κ 0,U κ 0,U κ 0,U κ 0,U κ 0,U κ 0,β false,U κ 0])∧IsMd ((v4.setRow gr (cpA ((c.setP ((c.pc+4)%65536))))).setRow gt #[U κ 0,U κ 0,U κ 0,U κ 0,U κ 0,U κ 0,β false,U κ 0]) D nf _):=⟨bp (bp f4 (g:=gr) (by have:=HG.out;omega) _) (g:=gt) (by have:=HG.out;omega) _,(h4.past (bb _ gr _) (fun k hk=>by have:=HL.out k hk;have:=HG.out;omega)).past (bb _ gt _) (fun k hk=>by have:=HL.out k hk;have:=HG.out;omega)⟩
  go_wp2_with (first | refine bh rfl 30 _ rfl gn rfl (cpA ((c.setP ((c.pc+4)%65536)))) _ (cq pn) Tryz.underlying30 rfl (bk _) ?_ | refine wpList_store_row rfl 30 _ _ rfl gr (cpA ((c.setP ((c.pc+4)%65536)))) rfl rfl 30 _ pr (bk _) (bj _).symm (bw _) ?_ | refine wpList_store_row rfl 52 _ _ rfl gt #[U κ 0,U κ 0,U κ 0,U κ 0,U κ 0,U κ 0,β false,U κ 0] rfl rfl 52 _ pt1 bn rfl (by simp[Value.oneCell']) ?_)
  refine bodyPost_ret (d8 rfl rfl rfl qr (bj _) qt rfl) rfl ?_
  exact ⟨rfl,HE.out⟩
theorem doth_23t (w:World) (D:Bd) (nf:Nat) (M:Mc) (c:Cp) (hok:c.Ok) (vm sd fi se:Int) (a b d i:Nat) (_ha:a<16) (hb:b<16) (_hi:i<65536) (hp:0≤c.pc∧c.pc≤65535) (h:IsMd w D nf M) {S:Vg} (hV:M.V=some S) (hq:endF S ((min (c.r b) 64:Nat):Int)=true) :
  Calls pQ 37 #[D.a,.agg (cpA c),.agg #[U κ 23,U κ (a:Int),U κ (b:Int),U κ (d:Int),U κ (i:Int)],.agg #[U κ vm,U κ sd,U κ fi,U κ se]] w fun e w'=>e=ρ (τ #[.agg (cpA ((c.setP ((c.pc+4)%65536)))),.agg (trL (⟨10,((c.r b:Nat):Int),c.pc,f0⟩))])∧Fr D.s w w'∧IsMd w' D nf ({ M with V:=some (endS S ((min (c.r b) 64:Nat):Int)) }):=by
 obtain ⟨bv,hb',_⟩:=h.some hV
 have HB:Hid (D.v=some bv):=hb'
 have HV:Hid (M.V=some S):=hV
 clear hb' hV
 unfold Bd.a
 have HL:Hid (∀ k,D.y k→k<w.heap.size):=h.lt
 obtain ⟨v0,gm,gc,gi,gs,gr,gt,hv0,hgm,hgc,hgi,hgs,hgr,hgt,HG,pm,pc,pi,ps,pr,pt,f0⟩:=co w D c 23 a b d i vm sd fi se
 go_enter Tryz.func37,Tryz.ntmps37
 go_upto_region 1 with fail
 rw[←hv0,←hgt,←hgr,←hgs,←hgi,←hgc,←hgm]
 clear hv0 hgm hgc hgi hgs hgr hgt
 have yp:=pc.pc
 have e4:IntKind.i64.wrap (c.pc+4)=c.pc+4:=by rw[IntKind.wrap_i64];omega
 go_wp2_with (refine bh rfl 30 _ rfl gc rfl (cpA c) _ (cq pc) Tryz.underlying30 rfl (bk _) ?_)
 refine(cn _ c (c.pc+4) (by omega)).mono ?_
 rintro e v1 ⟨rfl,f1⟩
 have f01:Fr bg v0 v1:=f1
 replace f1:=f0.trans f1
 have hsz:=f1.size
 have HN0:Hid (gm<v1.heap.size∧gc<v1.heap.size∧gi<v1.heap.size∧gs<v1.heap.size∧gr<v1.heap.size∧gt<v1.heap.size):=(show _∧_ by have:=pm.lt;have:=pc.lt;have:=pi.lt;have:=ps.lt;have:=pr.lt;have:=pt.lt;have:=‹Fr bg v0 v1›.size;omega)
 clear yp e4
 replace pm:=pm.keep f01 (fun h=>h)
 replace pc:=pc.keep f01 (fun h=>h)
 replace pi:=pi.keep f01 (fun h=>h)
 replace ps:=ps.keep f01 (fun h=>h)
 replace pr:=pr.keep f01 (fun h=>h)
 replace pt:=pt.keep f01 (fun h=>h)
 obtain ⟨v2,gn,hv2,hgn,pn,pn2,fa⟩:=nxt v1 ((c.setP ((c.pc+4)%65536)))
 clear f01 f0
 go_upto_region 2 with(refine wpList_store_row rfl 30 _ _ rfl v1.heap.size (cpA (c.setP ((c.pc+4)%65536))) rfl rfl 30 _ pn (bk _) (bj _).symm (bw _) ?_)
 clear pn
 rw[←hv2,←hgn]
 rw[←hgn] at HN0 hsz
 clear hv2 hgn
 replace pm:=pm.keep fa (fun h=>h)
 replace pc:=pc.keep fa (fun h=>h)
 replace pi:=pi.keep fa (fun h=>h)
 replace ps:=ps.keep fa (fun h=>h)
 replace pr:=pr.keep fa (fun h=>h)
 replace pt:=pt.keep fa (fun h=>h)
 replace f1:=f1.trans fa
 have h2:=h.keep0 f1
 have f2:Fr D.s w v2:=di f1
 clear f1 fa h
 have HN:Hid (w.heap.size≤gn):=hsz
 clear hsz
 have pn:=pn2
 clear pn2
 obtain ⟨x0,x1,x2,x3,x4⟩:=bl pi
 have HMN:Hid ((if (64:Int)<((c.r b:Nat):Int) then(64:Int) else((c.r b:Nat):Int))=((min (c.r b) 64:Nat):Int)):=min_u (c.r b) 64
 obtain ⟨y,hy⟩:∃ y:Nat,min (c.r b) 64=y:=⟨_,rfl⟩
 have hrb:=hok.r b
 have ib:0≤(b:Int)∧(b:Int)<16:=by omega
 rw[hy] at HMN hq
 have HS:∀ w1 (q:Int),q=(y:Int)→IsMd w1 D nf M→Calls pQ 91 #[π (some ⟨bv,0,none⟩),U κ q] w1 fun e w'=>e=ρ (τ #[β true,U κ (endE S (y:Int))])∧Fr (at' bv) w1 w'∧IsMd w' D nf { M with V:=some (endS S ((min (c.r b) 64:Nat):Int)) }:=fun w1 q hq2 h1=>by
  subst hq2
  have hv:=h1.v
  rw[HV.out,HB.out] at hv
  exact(rend_any w1 bv S hv (y:Int)).mono fun e w' ⟨he,f,q⟩=>⟨by rw[he,hq],f,by rw[hy];exact h1.vg HB.out f q⟩
 rw[HB.out] at pm
 clear hq hy
 have NN:Hid (gm≠bv∧gi≠bv∧gc≠bv∧gr≠bv∧gt≠bv∧gn≠bv):=(show _∧_ by have:=HL.out bv (Or.inl (Or.inr (Or.inr HB.out)));have:=HG.out;have:=HN.out;omega)
 clear ps x1 x2 x3 x4
 go_upto_region 26 with fail
 clear x0
 have h3d:=h2.drew
 rcases Decidable.em ((64:Int)<((c.r b:Nat):Int)) with hq | hq
 all_goals
  go_region_held3 (fun w'=>w'.cell? ⟨gm,2,none⟩=some (π (some ⟨bv,0,none⟩))∧w'.cell? ⟨gi,2,none⟩=some (U κ (b:Int))∧w'.cell? ⟨gc,b,none⟩=some (U μ ((c.r b:Nat):Int))) (first | with_reducible exact ⟨pm.cell 2,pi.cell 2,pc.rg hb⟩ | exact ⟨pm.cell 2,pi.cell 2,pc.rg hb⟩) (first | (go_at_call 91;refine(HS _ _ (by have hh:=HMN.out;first | (rw[hh,IntKind.wrap_i64];split at hh <;> omega) | (rw[IntKind.wrap_i64];split at hh <;> omega) | (split at hh <;> omega)) h3d).mono ?_;rintro e v4 ⟨rfl,f4,h4⟩;replace f4:=ks f4;replace pm:=pm.keep f4 (fun e=>NN.out.1 e);replace pi:=pi.keep f4 (fun e=>NN.out.2.1 e);replace pc:=pc.keep f4 (fun e=>NN.out.2.2.1 e)))
  clear hq
  replace pr:=pr.keep f4 (fun e=>NN.out.2.2.2.1 e)
  replace pt:=pt.keep f4 (fun e=>NN.out.2.2.2.2.1 e)
  replace pn:=pn.keep f4 (fun e=>NN.out.2.2.2.2.2 e)
  replace f4:=f2.trans (frd_v HB.out f4)
  clear h3d h2 f2 pm HS
  go_upto_region 28 with fail
  have nrt:¬ at' gr gt:=fun e=>by have e':gt=gr:=e;have:=HG.out;omega
  have ntr:¬ at' gt gr:=fun e=>by have e':gr=gt:=e;have:=HG.out;omega
  have pt1:=pt.keep (bb v4 gr (cpA ((c.setP ((c.pc+4)%65536))))) nrt
  have qt:=pt1.setRow (A:=#[U κ 10,U κ ((c.r b:Nat):Int),U κ c.pc,U κ 0,U κ 0,U κ 0,β false,U κ 0])
  have qr:=(pr.setRow (A:=cpA ((c.setP ((c.pc+4)%65536))))).keep (bb _ gt #[U κ 10,U κ ((c.r b:Nat):Int),U κ c.pc,U κ 0,U κ 0,U κ 0,β false,U κ 0]) ntr
  have HE:Hid (Fr D.s w ((v4.setRow gr (cpA ((c.setP ((c.pc+4)%65536))))).setRow gt #[U κ 10,U κ ((c.r b:Nat):Int),U κ c.pc,U κ 0,U κ 0,U κ 0,β false,U κ 0])∧IsMd ((v4.setRow gr (cpA ((c.setP ((c.pc+4)%65536))))).setRow gt #[U κ 10,U κ ((c.r b:Nat):Int),U κ c.pc,U κ 0,U κ 0,U κ 0,β false,U κ 0]) D nf _):=⟨bp (bp f4 (g:=gr) (by have:=HG.out;omega) _) (g:=gt) (by have:=HG.out;omega) _,(h4.past (bb _ gr _) (fun k hk=>by have:=HL.out k hk;have:=HG.out;omega)).past (bb _ gt _) (fun k hk=>by have:=HL.out k hk;have:=HG.out;omega)⟩
  have pc1:=(pc.keep (bb v4 gr (cpA ((c.setP ((c.pc+4)%65536))))) (fun e=>by have e':gc=gr:=e;have:=HG.out;have:=HN0.out;omega))
  have pc3:=pc1.keep (bb _ gt #[U κ 10,U κ ((c.r b:Nat):Int),U κ c.pc,U κ 0,U κ 0,U κ 0,β false,U κ 0]) (fun e=>by have e':gc=gt:=e;have:=HG.out;have:=HN0.out;omega)
  have pi1:=(pi.keep (bb v4 gr (cpA ((c.setP ((c.pc+4)%65536))))) (fun e=>by have e':gi=gr:=e;have:=HG.out;have:=HN0.out;omega))
  have pi3:=pi1.keep (bb _ gt #[U κ 10,U κ ((c.r b:Nat):Int),U κ c.pc,U κ 0,U κ 0,U κ 0,β false,U κ 0]) (fun e=>by have e':gi=gt:=e;have:=HG.out;have:=HN0.out;omega)
  have pn1:=(pn.keep (bb v4 gr (cpA ((c.setP ((c.pc+4)%65536))))) (fun e=>by have e':gn=gr:=e;have:=HG.out;have:=HN0.out;omega))
  have pn3:=pn1.keep (bb _ gt #[U κ 10,U κ ((c.r b:Nat):Int),U κ c.pc,U κ 0,U κ 0,U κ 0,β false,U κ 0]) (fun e=>by have e':gn=gt:=e;have:=HG.out;have:=HN0.out;omega)
  refine wp_region_held (S:=fun w'=>Row w' gc (cpA c) 30∧Row w' gi #[U κ 23,U κ (a:Int),U κ (b:Int),U κ (d:Int),U κ (i:Int)] 69∧Row w' gn (cpA (c.setP ((c.pc+4)%65536))) 30) (by kernel_rfl) ?_
  change wpAnyH _ _ _ _ _ _ _ _ (World.drew _)
  refine wpAnyH_take (i:=0) (v:=.agg (cpL (c.setP ((c.pc+4)%65536))).toArray) rfl (by kernel_rfl) (by kernel_rfl) (by kernel_rfl) (fun _ _ _ h=>h) (yieldsIf_load_mid (by kernel_rfl) 30 _ rfl gn 0 rfl (cpL (c.setP ((c.pc+4)%65536))) _ (fun _ h=>dc h.2.2) Tryz.underlying30 rfl (dw (c.setP ((c.pc+4)%65536)))) ⟨pc.drew,pi.drew,pn.drew⟩ ?_
  show wpAnyH _ _ _ _ _ _ _ (Act.put _ (some 133) _) _
  simp only[Act.put,sA,sB,sC]
  refine tkQ 1 (v:=?_) rfl (by kernel_rfl) (fun _ _ _ h=>h) (fun w hS=>?_) ⟨pc.drew,pi.drew,pn.drew⟩ ?_
  rotate_left
  ·go_simp
   try with_reducible rfl
  show wpAnyH _ _ _ _ _ _ _ (Act.put _ (some 134) _) _
  simp only[Act.put,sA,sB,sC]
  refine tkQ 2 (v:=?_) rfl (by kernel_rfl) (fun _ _ _ h=>h) (fun w hS=>?_) ⟨pc.drew,pi.drew,pn.drew⟩ ?_
  rotate_left
  ·obtain ⟨x0,x1,x2,x3,x4⟩:=bl hS.2.1;go_simp
   try with_reducible rfl
  show wpAnyH _ _ _ _ _ _ _ (Act.put _ (some 135) _) _
  simp only[Act.put,sA,sB,sC]
  refine tkQ 3 (v:=?_) rfl (by kernel_rfl) (fun _ _ _ h=>h) (fun w hS=>?_) ⟨pc.drew,pi.drew,pn.drew⟩ ?_
  rotate_left
  ·go_simp
   try with_reducible rfl
  show wpAnyH _ _ _ _ _ _ _ (Act.put _ (some 136) _) _
  simp only[Act.put,sA,sB,sC]
  refine tkQ 4 (v:=?_) rfl (by kernel_rfl) (fun _ _ _ h=>h) (fun w hS=>?_) ⟨pc.drew,pi.drew,pn.drew⟩ ?_
  rotate_left
  ·go_simp
   try with_reducible rfl
  show wpAnyH _ _ _ _ _ _ _ (Act.put _ (some 137) _) _
  simp only[Act.put,sA,sB,sC]
  refine tkQ 5 (v:=?_) rfl (by kernel_rfl) (fun _ _ _ h=>h) (fun w hS=>?_) ⟨pc.drew,pi.drew,pn.drew⟩ ?_
  rotate_left
  ·have yb:w.cell? ⟨gc,b,none⟩=some (U μ ((c.r b:Nat):Int)):=hS.1.rg hb;go_simp
   try with_reducible rfl
  show wpAnyH _ _ _ _ _ _ _ (Act.put _ (some 138) _) _
  simp only[Act.put,sA,sB,sC]
  refine tkQ 6 (v:=?_) rfl (by kernel_rfl) (fun _ _ _ h=>h) (fun w hS=>?_) ⟨pc.drew,pi.drew,pn.drew⟩ ?_
  rotate_left
  ·have hcv:IntKind.i64.wrap ((c.r b:Nat):Int)=((c.r b:Nat):Int):=by rw[IntKind.wrap_i64];omega
   go_simp
   try with_reducible rfl
  show wpAnyH _ _ _ _ _ _ _ (Act.put _ (some 139) _) _
  simp only[Act.put,sA,sB,sC]
  refine tkQ 7 (v:=?_) rfl (by kernel_rfl) (fun _ _ _ h=>h) (fun w hS=>?_) ⟨pc.drew,pi.drew,pn.drew⟩ ?_
  rotate_left
  ·go_simp
   try with_reducible rfl
  show wpAnyH _ _ _ _ _ _ _ (Act.put _ (some 140) _) _
  simp only[Act.put,sA,sB,sC]
  refine tkQ 8 (v:=?_) rfl (by kernel_rfl) (fun _ _ _ h=>h) (fun w hS=>?_) ⟨pc.drew,pi.drew,pn.drew⟩ ?_
  rotate_left
  ·have yp:=hS.1.pc;go_simp
   try with_reducible rfl
  show wpAnyH _ _ _ _ _ _ _ (Act.put _ (some 141) _) _
  simp only[Act.put,sA,sB,sC]
  refine tkQ 9 (v:=?_) rfl (by kernel_rfl) (fun _ _ _ h=>h) (fun w hS=>?_) ⟨pc.drew,pi.drew,pn.drew⟩ ?_
  rotate_left
  ·go_simp
   try with_reducible rfl
  show wpAnyH _ _ _ _ _ _ _ (Act.put _ (some 142) _) _
  simp only[Act.put,sA,sB,sC]
  refine wpAnyH_all (rs:=[10]) (by kernel_rfl) (by simp) ?_
  intro i hi
  obtain rfl:i=10:=by simpa using hi
  clear hi
  refine ck rfl (by kernel_rfl) ?_
  refine wp_store_row 30 _ _ rfl gr (cpA ((c.setP ((c.pc+4)%65536)))) rfl rfl 30 _ pr.drew (bk _) (bj _).symm (bw _) ?_
  refine ⟨⟨pc1.drew,pi1.drew,pn1.drew⟩,?_⟩
  show wpAnyH _ _ _ _ _ _ _ _ _
  refine wpAnyH_all (rs:=[11]) (by kernel_rfl) (by simp) ?_
  intro i hi
  obtain rfl:i=11:=by simpa using hi
  clear hi
  refine ck rfl (by kernel_rfl) ?_
  refine wp_store_row 52 _ _ rfl gt #[U κ 10,U κ ((c.r b:Nat):Int),U κ c.pc,U κ 0,U κ 0,U κ 0,β false,U κ 0] rfl rfl 52 _ pt1.drew bn rfl (by simp[Value.oneCell']) ?_
  refine ⟨⟨pc3.drew,pi3.drew,pn3.drew⟩,?_⟩
  show wpAnyH _ _ _ _ _ _ _ _ _
  refine wpAnyH_done (by kernel_rfl) ?_ _
  go_wp2_with fail
  refine bodyPost_ret (d8 rfl rfl rfl qr.drew (bj _) qt.drew rfl) rfl ?_
  exact ⟨rfl,HE.out.1.drew,HE.out.2.drew⟩
theorem doth_22 (w:World) (D:Bd) (nf:Nat) (M:Mc) (c:Cp) (_hok:c.Ok) (vm sd fi se:Int) (a b d i:Nat) (ha:a<16) (_hb:b<16) (_hi:i<65536) (hp:0≤c.pc∧c.pc≤65535) (h:IsMd w D nf M) {S:Vg} (hV:M.V=some S) :
  Calls pQ 37 #[D.a,.agg (cpA c),.agg #[U κ 22,U κ (a:Int),U κ (b:Int),U κ (d:Int),U κ (i:Int)],.agg #[U κ vm,U κ sd,U κ fi,U κ se]] w fun e w'=>e=ρ (τ #[.agg (cpA ((c.setP ((c.pc+4)%65536)).setR a (wi S).toNat)),.agg (trL (t0))])∧Fr D.s w w'∧IsMd w' D nf ({ M with V:=some (ackS S) }):=by
 obtain ⟨bv,hb',_⟩:=h.some hV
 have HB:Hid (D.v=some bv):=hb'
 have HV:Hid (M.V=some S):=hV
 clear hb' hV
 unfold Bd.a
 have HL:Hid (∀ k,D.y k→k<w.heap.size):=h.lt
 obtain ⟨v0,gm,gc,gi,gs,gr,gt,hv0,hgm,hgc,hgi,hgs,hgr,hgt,HG,pm,pc,pi,ps,pr,pt,f0⟩:=co w D c 22 a b d i vm sd fi se
 go_enter Tryz.func37,Tryz.ntmps37
 go_upto_region 1 with fail
 rw[←hv0,←hgt,←hgr,←hgs,←hgi,←hgc,←hgm]
 clear hv0 hgm hgc hgi hgs hgr hgt
 have yp:=pc.pc
 have e4:IntKind.i64.wrap (c.pc+4)=c.pc+4:=by rw[IntKind.wrap_i64];omega
 go_wp2_with (refine bh rfl 30 _ rfl gc rfl (cpA c) _ (cq pc) Tryz.underlying30 rfl (bk _) ?_)
 refine(cn _ c (c.pc+4) (by omega)).mono ?_
 rintro e v1 ⟨rfl,f1⟩
 have f01:Fr bg v0 v1:=f1
 replace f1:=f0.trans f1
 have hsz:=f1.size
 have HN0:Hid (gm<v1.heap.size∧gc<v1.heap.size∧gi<v1.heap.size∧gs<v1.heap.size∧gr<v1.heap.size∧gt<v1.heap.size):=(show _∧_ by have:=pm.lt;have:=pc.lt;have:=pi.lt;have:=ps.lt;have:=pr.lt;have:=pt.lt;have:=‹Fr bg v0 v1›.size;omega)
 clear yp e4
 replace pm:=pm.keep f01 (fun h=>h)
 replace pc:=pc.keep f01 (fun h=>h)
 replace pi:=pi.keep f01 (fun h=>h)
 replace ps:=ps.keep f01 (fun h=>h)
 replace pr:=pr.keep f01 (fun h=>h)
 replace pt:=pt.keep f01 (fun h=>h)
 obtain ⟨v2,gn,hv2,hgn,pn,pn2,fa⟩:=nxt v1 ((c.setP ((c.pc+4)%65536)))
 clear f01 f0
 go_upto_region 2 with(refine wpList_store_row rfl 30 _ _ rfl v1.heap.size (cpA (c.setP ((c.pc+4)%65536))) rfl rfl 30 _ pn (bk _) (bj _).symm (bw _) ?_)
 clear pn
 rw[←hv2,←hgn]
 rw[←hgn] at HN0 hsz
 clear hv2 hgn
 replace pm:=pm.keep fa (fun h=>h)
 replace pc:=pc.keep fa (fun h=>h)
 replace pi:=pi.keep fa (fun h=>h)
 replace ps:=ps.keep fa (fun h=>h)
 replace pr:=pr.keep fa (fun h=>h)
 replace pt:=pt.keep fa (fun h=>h)
 replace f1:=f1.trans fa
 have h2:=h.keep0 f1
 have f2:Fr D.s w v2:=di f1
 clear f1 fa h
 have HN:Hid (w.heap.size≤gn):=hsz
 clear hsz
 have pn:=pn2
 clear pn2
 obtain ⟨x0,x1,x2,x3,x4⟩:=bl pi
 have hac:=vk S
 obtain ⟨y,hy⟩:∃ y:Nat,(wi S).toNat=y:=⟨_,rfl⟩
 have hya:wi S=(y:Int):=by omega
 have hy2:y<4294967296:=by omega
 have HS:∀ w1,IsMd w1 D nf M→Calls pQ 90 #[π (some ⟨bv,0,none⟩)] w1 fun e w'=>e=ρ (U κ (y:Int))∧Fr (at' bv) w1 w'∧IsMd w' D nf { M with V:=some (ackS S) }:=fun w1 h1=>by
  have hv:=h1.v
  rw[HV.out,HB.out] at hv
  exact(rack_any w1 bv S hv).mono fun e w' ⟨he,f,q⟩=>⟨by rw[he,hya],f,h1.vg HB.out f q⟩
 have ia:0≤(a:Int)∧(a:Int)<16:=by omega
 have hcv:IntKind.u32.wrap (y:Int)=(y:Int):=by rw[IntKind.wrap_u32];omega
 rw[HB.out] at pm
 clear hac hya
 have NN:Hid (gm≠bv∧gi≠bv∧gc≠bv∧gr≠bv∧gt≠bv∧gn≠bv):=(show _∧_ by have:=HL.out bv (Or.inl (Or.inr (Or.inr HB.out)));have:=HG.out;have:=HN.out;omega)
 have n1:¬ at' gn gm:=fun e=>by have e':gm=gn:=e;have:=HN0.out;omega
 have n2:¬ at' gn gi:=fun e=>by have e':gi=gn:=e;have:=HN0.out;omega
 clear ps pc x0 x1 x2 x3 x4
 have x0:v2.cell? ⟨gi,0,none⟩=some (U κ 22):=pi.cell 0
 go_upto_region 24 with fail
 clear x0
 have h3d:=h2.drew
 go_region_held3 (fun w'=>w'.cell? ⟨gm,2,none⟩=some (π (some ⟨bv,0,none⟩))∧w'.cell? ⟨gi,1,none⟩=some (U κ (a:Int))) (first | with_reducible exact ⟨pm.cell 2,pi.cell 1⟩ | exact ⟨pm.cell 2,pi.cell 1⟩ | exact ⟨(pm.keep (m7 _ gn a _) n1).cell 2,(pi.keep (m7 _ gn a _) n2).cell 1⟩) (first | (go_at_call 90;refine(HS _ h3d).mono ?_;rintro e v4 ⟨rfl,f4,h4⟩;replace f4:=ks f4;replace pm:=pm.keep f4 (fun e=>NN.out.1 e);replace pi:=pi.keep f4 (fun e=>NN.out.2.1 e);replace pn:=pn.keep f4 (fun e=>NN.out.2.2.2.2.2 e);have yn:v4.cell? ⟨gn,a,none⟩=some (U μ (((c.setP ((c.pc+4)%65536)).r a:Nat):Int)):=pn.rg ha;have yz:=pn.frozen a))
 have g1:=m7 v4 gn a (U μ (y:Int))
 replace pr:=(pr.keep f4 (fun e=>NN.out.2.2.2.1 e)).keep g1 (fun e=>by have e':gr=gn:=e;have:=HN0.out;omega)
 replace pt:=(pt.keep f4 (fun e=>NN.out.2.2.2.2.1 e)).keep g1 (fun e=>by have e':gt=gn:=e;have:=HN0.out;omega)
 replace f4:=(f2.trans (frd_v HB.out f4)).newerS g1 HN.out
 have h5:=h4.past g1 (fun k hk=>by have:=HL.out k hk;have:=HN.out;omega)
 replace pn:=pn.setRg ha y
 clear h3d h2 h4 f2 pm pi HS yn yz g1 n1 n2
 obtain ⟨v5,hv5⟩:∃ v5,v5=v4.setCell ⟨gn,a,none⟩ (U μ (y:Int)):=⟨_,rfl⟩
 rw[←hv5] at pr pt pn f4 h5 ⊢
 clear hv5
 rw[←hy] at pn
 clear hy
 have nrt:¬ at' gr gt:=fun e=>by have e':gt=gr:=e;have:=HG.out;omega
 have ntr:¬ at' gt gr:=fun e=>by have e':gr=gt:=e;have:=HG.out;omega
 have pt1:=pt.keep (bb v5 gr (cpA ((c.setP ((c.pc+4)%65536)).setR a (wi S).toNat))) nrt
 have qt:=pt1.setRow (A:=#[U κ 0,U κ 0,U κ 0,U κ 0,U κ 0,U κ 0,β false,U κ 0])
 have qr:=(pr.setRow (A:=cpA ((c.setP ((c.pc+4)%65536)).setR a (wi S).toNat))).keep (bb _ gt #[U κ 0,U κ 0,U κ 0,U κ 0,U κ 0,U κ 0,β false,U κ 0]) ntr
 have HE:Hid (Fr D.s w ((v5.setRow gr (cpA ((c.setP ((c.pc+4)%65536)).setR a (wi S).toNat))).setRow gt #[U κ 0,U κ 0,U κ 0,U κ 0,U κ 0,U κ 0,β false,U κ 0])∧IsMd ((v5.setRow gr (cpA ((c.setP ((c.pc+4)%65536)).setR a (wi S).toNat))).setRow gt #[U κ 0,U κ 0,U κ 0,U κ 0,U κ 0,U κ 0,β false,U κ 0]) D nf _):=⟨bp (bp f4 (g:=gr) (by have:=HG.out;omega) _) (g:=gt) (by have:=HG.out;omega) _,(h5.past (bb _ gr _) (fun k hk=>by have:=HL.out k hk;have:=HG.out;omega)).past (bb _ gt _) (fun k hk=>by have:=HL.out k hk;have:=HG.out;omega)⟩
 go_wp2_with (first | refine bh rfl 30 _ rfl gn rfl (cpA ((c.setP ((c.pc+4)%65536)).setR a (wi S).toNat)) _ (cq pn) Tryz.underlying30 rfl (bk _) ?_ | refine wpList_store_row rfl 30 _ _ rfl gr (cpA ((c.setP ((c.pc+4)%65536)).setR a (wi S).toNat)) rfl rfl 30 _ pr (bk _) (bj _).symm (bw _) ?_ | refine wpList_store_row rfl 52 _ _ rfl gt #[U κ 0,U κ 0,U κ 0,U κ 0,U κ 0,U κ 0,β false,U κ 0] rfl rfl 52 _ pt1 bn rfl (by simp[Value.oneCell']) ?_)
 refine bodyPost_ret (d8 rfl rfl rfl qr (bj _) qt rfl) rfl ?_
 exact ⟨rfl,HE.out⟩
end Go.Proofs.YtibhbjbpodlpiaaGreat
