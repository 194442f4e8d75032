/-
  Contracts over the translation. No statement is proved here.
-/
import Derived.Test.YtibhbjbpodlpiaaGreatQCdO
import Derived.Test.YtibhbjbpodlpiaaGreatQCdT
import Derived.Test.YtibhbjbpodlpiaaGreatQJR
set_option maxRecDepth 100000
set_option maxHeartbeats 8000000
namespace Go.Proofs.YtibhbjbpodlpiaaGreat
open Go.RowKit
open Go.Value renaming int → U, bool → β, pointer → π, tuple → τ
open Go.IntKind renaming i64 → κ, u32 → μ
open Go.Obj renaming cells → ω
open Go.Ending renaming returned → ρ
open Go.Proofs.Tryz renaming prog → pQ
theorem m7 (w:World) (g k:Nat) (v:Value):Fr (at' g) w (w.setCell ⟨g,k,none⟩ v):=cy w g k v (Fr.refl _ w)
theorem IsMd.vg {w w':World} {D:Bd} {nf:Nat} {M:Mc} (h:IsMd w D nf M) {b:Nat} (hb:D.v=some b) (f:Fr (at' b) w w') {S:Vg} (hv:IsRv w' b S):IsMd w' D nf { M with V:=some S }:=
 ⟨h.r.keep f (fun e=>(h.e b hb).1 (Eq.symm e)) (fun e=>(h.e b hb).2.1 (Eq.symm e)),h.t.keep f (fun e=>(h.e b hb).2.2 (Eq.symm e)),by rw[hb];exact hv,h.d1,h.d2,h.e⟩
theorem frd_v {w w':World} {D:Bd} {b:Nat} (hb:D.v=some b) (f:Fr (at' b) w w'):Fr D.s w w':=f.mono (fun k _ h=>Or.inr (Or.inr (by have e:k=b:=h;rw[e];exact hb)))
theorem IsMd.some {w:World} {D:Bd} {nf:Nat} {M:Mc} (h:IsMd w D nf M) {S:Vg} (hV:M.V=some S):∃ b,D.v=some b∧IsRv w b S:=by
 have hv:=h.v
 rw[hV] at hv
 cases hb:D.v with
 | none=>rw[hb] at hv;exact hv.elim
 | some b=>rw[hb] at hv;exact ⟨b,rfl,hv⟩
theorem doth_19 (w:World) (D:Bd) (nf:Nat) (M:Mc) (c:Cp) (_hok:c.Ok) (vm sd fi se:Int) (a b d i:Nat) (ha:a<16) (_hb:b<16) (_hi:i<65536) (hp:0≤c.pc∧c.pc≤65535) (h:IsMd w D nf M) (hq:¬ 6<i) :
  Calls pQ 37 #[D.a,.agg (cpA c),.agg #[U κ 19,U κ (a:Int),U κ (b:Int),U κ (d:Int),U κ (i:Int)],.agg #[U κ vm,U κ sd,U κ fi,U κ se]] w fun e w'=>e=ρ (τ #[.agg (cpA ((c.setP ((c.pc+4)%65536)).setR a (c.s i))),.agg (trL (t0))])∧Fr D.s w w'∧IsMd w' D nf (M):=by
 unfold Bd.a
 have HL:Hid (∀ k,D.y k→k<w.heap.size):=h.lt
 obtain ⟨v0,gm,gc,gi,gs,gr,gt,hv0,hgm,hgc,hgi,hgs,hgr,hgt,HG,pm,pc,pi,ps,pr,pt,f0⟩:=co w D c 19 a b d i vm sd fi se
 go_enter Tryz.func37,Tryz.ntmps37
 go_upto_region 1 with fail
 rw[←hv0,←hgt,←hgr,←hgs,←hgi,←hgc,←hgm]
 clear hv0 hgm hgc hgi hgs hgr hgt
 have yp:=pc.pc
 have e4:IntKind.i64.wrap (c.pc+4)=c.pc+4:=by rw[IntKind.wrap_i64];omega
 go_wp2_with (refine bh rfl 30 _ rfl gc rfl (cpA c) _ (cq pc) Tryz.underlying30 rfl (bk _) ?_)
 refine(cn _ c (c.pc+4) (by omega)).mono ?_
 rintro e v1 ⟨rfl,f1⟩
 have f01:Fr bg v0 v1:=f1
 replace f1:=f0.trans f1
 have hsz:=f1.size
 have HN0:Hid (gm<v1.heap.size∧gc<v1.heap.size∧gi<v1.heap.size∧gs<v1.heap.size∧gr<v1.heap.size∧gt<v1.heap.size):=(show _∧_ by have:=pm.lt;have:=pc.lt;have:=pi.lt;have:=ps.lt;have:=pr.lt;have:=pt.lt;have:=‹Fr bg v0 v1›.size;omega)
 clear yp e4
 replace pm:=pm.keep f01 (fun h=>h)
 replace pc:=pc.keep f01 (fun h=>h)
 replace pi:=pi.keep f01 (fun h=>h)
 replace ps:=ps.keep f01 (fun h=>h)
 replace pr:=pr.keep f01 (fun h=>h)
 replace pt:=pt.keep f01 (fun h=>h)
 obtain ⟨v2,gn,hv2,hgn,pn,pn2,fa⟩:=nxt v1 ((c.setP ((c.pc+4)%65536)))
 clear f01 f0
 go_upto_region 2 with(refine wpList_store_row rfl 30 _ _ rfl v1.heap.size (cpA (c.setP ((c.pc+4)%65536))) rfl rfl 30 _ pn (bk _) (bj _).symm (bw _) ?_)
 clear pn
 rw[←hv2,←hgn]
 rw[←hgn] at HN0 hsz
 clear hv2 hgn
 replace pm:=pm.keep fa (fun h=>h)
 replace pc:=pc.keep fa (fun h=>h)
 replace pi:=pi.keep fa (fun h=>h)
 replace ps:=ps.keep fa (fun h=>h)
 replace pr:=pr.keep fa (fun h=>h)
 replace pt:=pt.keep fa (fun h=>h)
 replace f1:=f1.trans fa
 have h2:=h.keep0 f1
 have f2:Fr D.s w v2:=di f1
 clear f1 fa h
 have HN:Hid (w.heap.size≤gn):=hsz
 clear hsz
 have pn:=pn2
 clear pn2
 obtain ⟨x0,x1,x2,x3,x4⟩:=bl pi
 have u1:decide ((6:Int)<(i:Int))=false:=decide_eq_false (by omega)
 have ia:0≤(a:Int)∧(a:Int)<16:=by omega
 have ii:0≤(i:Int)∧(i:Int)<8:=by omega
 have ys:v2.cell? ⟨gc,17+i,none⟩=some (U μ ((c.s i:Nat):Int)):=pc.sy (by omega)
 have yn:v2.cell? ⟨gn,a,none⟩=some (U μ (((c.setP ((c.pc+4)%65536)).r a:Nat):Int)):=pn.rg ha
 have g1:=m7 v2 gn (a) (U μ (((c.s i:Nat):Int)))
 have pn3:=pn.setRg ha (c.s i)
 have h3:=(h2.past g1 (fun k hk=>by have:=HL.out k hk;have:=HN.out;omega)).drew
 have f3:=(f2.newerS g1 HN.out).drew
 have pr3:=(pr.keep g1 (fun e=>by have e':gr=gn:=e;have:=HN0.out;omega)).drew
 have pt3:=(pt.keep g1 (fun e=>by have e':gt=gn:=e;have:=HN0.out;omega)).drew
 have yz:=pn.frozen (a)
 clear pm ps pi pc
 go_upto_region 10 with fail
 go_region
 replace pn:=pn3.drew
 have pr:=pr3
 have pt:=pt3
 clear pn3 pr3 pt3 h2 f2 g1
 obtain ⟨v3,hv3⟩:∃ v3,v3=(v2.setCell ⟨gn,a,none⟩ (U μ (((c.s i:Nat):Int)))).drew:=⟨_,rfl⟩
 rw[←hv3] at pr pt pn h3 f3 ⊢
 clear hv3
 clear ys yn yz x0 x1 x2 x3 x4
 have nrt:¬ at' gr gt:=fun e=>by have e':gt=gr:=e;have:=HG.out;omega
 have ntr:¬ at' gt gr:=fun e=>by have e':gr=gt:=e;have:=HG.out;omega
 have pt1:=pt.keep (bb v3 gr (cpA ((c.setP ((c.pc+4)%65536)).setR a (c.s i)))) nrt
 have qt:=pt1.setRow (A:=#[U κ 0,U κ 0,U κ 0,U κ 0,U κ 0,U κ 0,β false,U κ 0])
 have qr:=(pr.setRow (A:=cpA ((c.setP ((c.pc+4)%65536)).setR a (c.s i)))).keep (bb _ gt #[U κ 0,U κ 0,U κ 0,U κ 0,U κ 0,U κ 0,β false,U κ 0]) ntr
 have HE:Hid (Fr D.s w ((v3.setRow gr (cpA ((c.setP ((c.pc+4)%65536)).setR a (c.s i)))).setRow gt #[U κ 0,U κ 0,U κ 0,U κ 0,U κ 0,U κ 0,β false,U κ 0])∧IsMd ((v3.setRow gr (cpA ((c.setP ((c.pc+4)%65536)).setR a (c.s i)))).setRow gt #[U κ 0,U κ 0,U κ 0,U κ 0,U κ 0,U κ 0,β false,U κ 0]) D nf _):=⟨bp (bp f3 (g:=gr) (by have:=HG.out;omega) _) (g:=gt) (by have:=HG.out;omega) _,(h3.past (bb _ gr _) (fun k hk=>by have:=HL.out k hk;have:=HG.out;omega)).past (bb _ gt _) (fun k hk=>by have:=HL.out k hk;have:=HG.out;omega)⟩
 go_wp2_with (first | refine bh rfl 30 _ rfl gn rfl (cpA ((c.setP ((c.pc+4)%65536)).setR a (c.s i))) _ (cq pn) Tryz.underlying30 rfl (bk _) ?_ | refine wpList_store_row rfl 30 _ _ rfl gr (cpA ((c.setP ((c.pc+4)%65536)).setR a (c.s i))) rfl rfl 30 _ pr (bk _) (bj _).symm (bw _) ?_ | refine wpList_store_row rfl 52 _ _ rfl gt #[U κ 0,U κ 0,U κ 0,U κ 0,U κ 0,U κ 0,β false,U κ 0] rfl rfl 52 _ pt1 bn rfl (by simp[Value.oneCell']) ?_)
 refine bodyPost_ret (d8 rfl rfl rfl qr (bj _) qt rfl) rfl ?_
 exact ⟨rfl,HE.out⟩
theorem doth_20 (w:World) (D:Bd) (nf:Nat) (M:Mc) (c:Cp) (_hok:c.Ok) (vm sd fi se:Int) (a b d i:Nat) (_ha:a<16) (hb:b<16) (_hi:i<65536) (hp:0≤c.pc∧c.pc≤65535) (h:IsMd w D nf M) (hq:¬ 5<i) (hi2:¬ i=2) :
  Calls pQ 37 #[D.a,.agg (cpA c),.agg #[U κ 20,U κ (a:Int),U κ (b:Int),U κ (d:Int),U κ (i:Int)],.agg #[U κ vm,U κ sd,U κ fi,U κ se]] w fun e w'=>e=ρ (τ #[.agg (cpA ((c.setP ((c.pc+4)%65536)).setS i (c.r b))),.agg (trL (t0))])∧Fr D.s w w'∧IsMd w' D nf (M):=by
 unfold Bd.a
 have HL:Hid (∀ k,D.y k→k<w.heap.size):=h.lt
 obtain ⟨v0,gm,gc,gi,gs,gr,gt,hv0,hgm,hgc,hgi,hgs,hgr,hgt,HG,pm,pc,pi,ps,pr,pt,f0⟩:=co w D c 20 a b d i vm sd fi se
 go_enter Tryz.func37,Tryz.ntmps37
 go_upto_region 1 with fail
 rw[←hv0,←hgt,←hgr,←hgs,←hgi,←hgc,←hgm]
 clear hv0 hgm hgc hgi hgs hgr hgt
 have yp:=pc.pc
 have e4:IntKind.i64.wrap (c.pc+4)=c.pc+4:=by rw[IntKind.wrap_i64];omega
 go_wp2_with (refine bh rfl 30 _ rfl gc rfl (cpA c) _ (cq pc) Tryz.underlying30 rfl (bk _) ?_)
 refine(cn _ c (c.pc+4) (by omega)).mono ?_
 rintro e v1 ⟨rfl,f1⟩
 have f01:Fr bg v0 v1:=f1
 replace f1:=f0.trans f1
 have hsz:=f1.size
 have HN0:Hid (gm<v1.heap.size∧gc<v1.heap.size∧gi<v1.heap.size∧gs<v1.heap.size∧gr<v1.heap.size∧gt<v1.heap.size):=(show _∧_ by have:=pm.lt;have:=pc.lt;have:=pi.lt;have:=ps.lt;have:=pr.lt;have:=pt.lt;have:=‹Fr bg v0 v1›.size;omega)
 clear yp e4
 replace pm:=pm.keep f01 (fun h=>h)
 replace pc:=pc.keep f01 (fun h=>h)
 replace pi:=pi.keep f01 (fun h=>h)
 replace ps:=ps.keep f01 (fun h=>h)
 replace pr:=pr.keep f01 (fun h=>h)
 replace pt:=pt.keep f01 (fun h=>h)
 obtain ⟨v2,gn,hv2,hgn,pn,pn2,fa⟩:=nxt v1 ((c.setP ((c.pc+4)%65536)))
 clear f01 f0
 go_upto_region 2 with(refine wpList_store_row rfl 30 _ _ rfl v1.heap.size (cpA (c.setP ((c.pc+4)%65536))) rfl rfl 30 _ pn (bk _) (bj _).symm (bw _) ?_)
 clear pn
 rw[←hv2,←hgn]
 rw[←hgn] at HN0 hsz
 clear hv2 hgn
 replace pm:=pm.keep fa (fun h=>h)
 replace pc:=pc.keep fa (fun h=>h)
 replace pi:=pi.keep fa (fun h=>h)
 replace ps:=ps.keep fa (fun h=>h)
 replace pr:=pr.keep fa (fun h=>h)
 replace pt:=pt.keep fa (fun h=>h)
 replace f1:=f1.trans fa
 have h2:=h.keep0 f1
 have f2:Fr D.s w v2:=di f1
 clear f1 fa h
 have HN:Hid (w.heap.size≤gn):=hsz
 clear hsz
 have pn:=pn2
 clear pn2
 obtain ⟨x0,x1,x2,x3,x4⟩:=bl pi
 have u1:decide ((5:Int)<(i:Int))=false:=decide_eq_false (by omega)
 have u2:((i:Int) == 2)=false:=by simp;omega
 have ib:0≤(b:Int)∧(b:Int)<16:=by omega
 have ii:0≤(i:Int)∧(i:Int)<8:=by omega
 have yb:v2.cell? ⟨gc,b,none⟩=some (U μ ((c.r b:Nat):Int)):=pc.rg hb
 have yn:v2.cell? ⟨gn,17+i,none⟩=some (U μ (((c.setP ((c.pc+4)%65536)).s i:Nat):Int)):=pn.sy (by omega)
 have g1:=m7 v2 gn (17+i) (U μ (((c.r b:Nat):Int)))
 have pn3:=Row.setSy (i:=i) pn (by omega) (c.r b)
 have h3:=(h2.past g1 (fun k hk=>by have:=HL.out k hk;have:=HN.out;omega)).drew
 have f3:=(f2.newerS g1 HN.out).drew
 have pr3:=(pr.keep g1 (fun e=>by have e':gr=gn:=e;have:=HN0.out;omega)).drew
 have pt3:=(pt.keep g1 (fun e=>by have e':gt=gn:=e;have:=HN0.out;omega)).drew
 have yz:=pn.frozen (17+i)
 have pi3:=(pi.keep g1 (fun e=>by have e':gi=gn:=e;have:=HN0.out;omega)).drew
 have pc3:=(pc.keep g1 (fun e=>by have e':gc=gn:=e;have:=HN0.out;omega)).drew
 have pm3:=(pm.keep g1 (fun e=>by have e':gm=gn:=e;have:=HN0.out;omega)).drew
 clear pm ps pi pc
 go_upto_region 14 with fail
 go_region
 replace pn:=pn3.drew
 have pr:=pr3
 have pt:=pt3
 clear pn3 pr3 pt3 h2 f2 g1
 obtain ⟨v3,hv3⟩:∃ v3,v3=(v2.setCell ⟨gn,17+i,none⟩ (U μ (((c.r b:Nat):Int)))).drew:=⟨_,rfl⟩
 rw[←hv3] at pi3 pc3 pm3 pr pt pn h3 f3 ⊢
 clear hv3
 clear yb yn yz x0 x1 x2 x3 x4
 obtain ⟨x0,x1,x2,x3,x4⟩:=bl pi3
 clear pm3 pc3
 have nrt:¬ at' gr gt:=fun e=>by have e':gt=gr:=e;have:=HG.out;omega
 have ntr:¬ at' gt gr:=fun e=>by have e':gr=gt:=e;have:=HG.out;omega
 have pt1:=pt.keep (bb v3 gr (cpA ((c.setP ((c.pc+4)%65536)).setS i (c.r b)))) nrt
 have qt:=pt1.setRow (A:=#[U κ 0,U κ 0,U κ 0,U κ 0,U κ 0,U κ 0,β false,U κ 0])
 have qr:=(pr.setRow (A:=cpA ((c.setP ((c.pc+4)%65536)).setS i (c.r b)))).keep (bb _ gt #[U κ 0,U κ 0,U κ 0,U κ 0,U κ 0,U κ 0,β false,U κ 0]) ntr
 have HE:Hid (Fr D.s w ((v3.setRow gr (cpA ((c.setP ((c.pc+4)%65536)).setS i (c.r b)))).setRow gt #[U κ 0,U κ 0,U κ 0,U κ 0,U κ 0,U κ 0,β false,U κ 0])∧IsMd ((v3.setRow gr (cpA ((c.setP ((c.pc+4)%65536)).setS i (c.r b)))).setRow gt #[U κ 0,U κ 0,U κ 0,U κ 0,U κ 0,U κ 0,β false,U κ 0]) D nf _):=⟨bp (bp f3 (g:=gr) (by have:=HG.out;omega) _) (g:=gt) (by have:=HG.out;omega) _,(h3.past (bb _ gr _) (fun k hk=>by have:=HL.out k hk;have:=HG.out;omega)).past (bb _ gt _) (fun k hk=>by have:=HL.out k hk;have:=HG.out;omega)⟩
 go_wp2_with (first | refine bh rfl 30 _ rfl gn rfl (cpA ((c.setP ((c.pc+4)%65536)).setS i (c.r b))) _ (cq pn) Tryz.underlying30 rfl (bk _) ?_ | refine wpList_store_row rfl 30 _ _ rfl gr (cpA ((c.setP ((c.pc+4)%65536)).setS i (c.r b))) rfl rfl 30 _ pr (bk _) (bj _).symm (bw _) ?_ | refine wpList_store_row rfl 52 _ _ rfl gt #[U κ 0,U κ 0,U κ 0,U κ 0,U κ 0,U κ 0,β false,U κ 0] rfl rfl 52 _ pt1 bn rfl (by simp[Value.oneCell']) ?_)
 refine bodyPost_ret (d8 rfl rfl rfl qr (bj _) qt rfl) rfl ?_
 exact ⟨rfl,HE.out⟩
theorem doth_20s (w:World) (D:Bd) (nf:Nat) (M:Mc) (c:Cp) (hok:c.Ok) (vm sd fi se:Int) (a b d i:Nat) (_ha:a<16) (hb:b<16) (_hi:i<65536) (hp:0≤c.pc∧c.pc≤65535) (h:IsMd w D nf M) (hq:¬ 5<i) (hi2:i=2) {S:Vg} (hV:M.V=some S) :
  Calls pQ 37 #[D.a,.agg (cpA c),.agg #[U κ 20,U κ (a:Int),U κ (b:Int),U κ (d:Int),U κ (i:Int)],.agg #[U κ vm,U κ sd,U κ fi,U κ se]] w fun e w'=>e=ρ (τ #[.agg (cpA ((c.setP ((c.pc+4)%65536)).setS i (c.r b))),.agg (trL (t0))])∧Fr D.s w w'∧IsMd w' D nf ({ M with V:=some (masS S ((min (c.r b) 256:Nat):Int)) }):=by
 obtain ⟨bv,hb',_⟩:=h.some hV
 have HB:Hid (D.v=some bv):=hb'
 have HV:Hid (M.V=some S):=hV
 clear hb' hV
 have HI:Hid (i=2):=hi2
 clear hi2
 unfold Bd.a
 have HL:Hid (∀ k,D.y k→k<w.heap.size):=h.lt
 obtain ⟨v0,gm,gc,gi,gs,gr,gt,hv0,hgm,hgc,hgi,hgs,hgr,hgt,HG,pm,pc,pi,ps,pr,pt,f0⟩:=co w D c 20 a b d i vm sd fi se
 go_enter Tryz.func37,Tryz.ntmps37
 go_upto_region 1 with fail
 rw[←hv0,←hgt,←hgr,←hgs,←hgi,←hgc,←hgm]
 clear hv0 hgm hgc hgi hgs hgr hgt
 have yp:=pc.pc
 have e4:IntKind.i64.wrap (c.pc+4)=c.pc+4:=by rw[IntKind.wrap_i64];omega
 go_wp2_with (refine bh rfl 30 _ rfl gc rfl (cpA c) _ (cq pc) Tryz.underlying30 rfl (bk _) ?_)
 refine(cn _ c (c.pc+4) (by omega)).mono ?_
 rintro e v1 ⟨rfl,f1⟩
 have f01:Fr bg v0 v1:=f1
 replace f1:=f0.trans f1
 have hsz:=f1.size
 have HN0:Hid (gm<v1.heap.size∧gc<v1.heap.size∧gi<v1.heap.size∧gs<v1.heap.size∧gr<v1.heap.size∧gt<v1.heap.size):=(show _∧_ by have:=pm.lt;have:=pc.lt;have:=pi.lt;have:=ps.lt;have:=pr.lt;have:=pt.lt;have:=‹Fr bg v0 v1›.size;omega)
 clear yp e4
 replace pm:=pm.keep f01 (fun h=>h)
 replace pc:=pc.keep f01 (fun h=>h)
 replace pi:=pi.keep f01 (fun h=>h)
 replace ps:=ps.keep f01 (fun h=>h)
 replace pr:=pr.keep f01 (fun h=>h)
 replace pt:=pt.keep f01 (fun h=>h)
 obtain ⟨v2,gn,hv2,hgn,pn,pn2,fa⟩:=nxt v1 ((c.setP ((c.pc+4)%65536)))
 clear f01 f0
 go_upto_region 2 with(refine wpList_store_row rfl 30 _ _ rfl v1.heap.size (cpA (c.setP ((c.pc+4)%65536))) rfl rfl 30 _ pn (bk _) (bj _).symm (bw _) ?_)
 clear pn
 rw[←hv2,←hgn]
 rw[←hgn] at HN0 hsz
 clear hv2 hgn
 replace pm:=pm.keep fa (fun h=>h)
 replace pc:=pc.keep fa (fun h=>h)
 replace pi:=pi.keep fa (fun h=>h)
 replace ps:=ps.keep fa (fun h=>h)
 replace pr:=pr.keep fa (fun h=>h)
 replace pt:=pt.keep fa (fun h=>h)
 replace f1:=f1.trans fa
 have h2:=h.keep0 f1
 have f2:Fr D.s w v2:=di f1
 clear f1 fa h
 have HN:Hid (w.heap.size≤gn):=hsz
 clear hsz
 have pn:=pn2
 clear pn2
 obtain ⟨x0,x1,x2,x3,x4⟩:=bl pi
 have u1:decide ((5:Int)<(i:Int))=false:=decide_eq_false (by omega)
 have u2:((i:Int) == 2)=true:=by have:=HI.out;simp;omega
 have ib:0≤(b:Int)∧(b:Int)<16:=by omega
 have ii:0≤(i:Int)∧(i:Int)<8:=by omega
 have yb:v2.cell? ⟨gc,b,none⟩=some (U μ ((c.r b:Nat):Int)):=pc.rg hb
 have yn:v2.cell? ⟨gn,17+i,none⟩=some (U μ (((c.setP ((c.pc+4)%65536)).s i:Nat):Int)):=pn.sy (by omega)
 have g1:=m7 v2 gn (17+i) (U μ (((c.r b:Nat):Int)))
 have pn3:=Row.setSy (i:=i) pn (by omega) (c.r b)
 have h3:=(h2.past g1 (fun k hk=>by have:=HL.out k hk;have:=HN.out;omega)).drew
 have f3:=(f2.newerS g1 HN.out).drew
 have pr3:=(pr.keep g1 (fun e=>by have e':gr=gn:=e;have:=HN0.out;omega)).drew
 have pt3:=(pt.keep g1 (fun e=>by have e':gt=gn:=e;have:=HN0.out;omega)).drew
 have yz:=pn.frozen (17+i)
 have pi3:=(pi.keep g1 (fun e=>by have e':gi=gn:=e;have:=HN0.out;omega)).drew
 have pc3:=(pc.keep g1 (fun e=>by have e':gc=gn:=e;have:=HN0.out;omega)).drew
 have pm3:=(pm.keep g1 (fun e=>by have e':gm=gn:=e;have:=HN0.out;omega)).drew
 clear pm ps pi pc
 go_upto_region 14 with fail
 go_region
 replace pn:=pn3.drew
 have pr:=pr3
 have pt:=pt3
 clear pn3 pr3 pt3 h2 f2 g1
 obtain ⟨v3,hv3⟩:∃ v3,v3=(v2.setCell ⟨gn,17+i,none⟩ (U μ (((c.r b:Nat):Int)))).drew:=⟨_,rfl⟩
 rw[←hv3] at pi3 pc3 pm3 pr pt pn h3 f3 ⊢
 clear hv3
 clear yb yn yz x0 x1 x2 x3 x4
 obtain ⟨x0,x1,x2,x3,x4⟩:=bl pi3
 have HMN:Hid ((if (256:Int)<((c.r b:Nat):Int) then(256:Int) else((c.r b:Nat):Int))=((min (c.r b) 256:Nat):Int)):=min_u (c.r b) 256
 obtain ⟨y,hy⟩:∃ y:Nat,min (c.r b) 256=y:=⟨_,rfl⟩
 have hrb:=hok.r b
 rw[HB.out] at pm3
 have HS:∀ w1 (q:Int),q=(y:Int)→IsMd w1 D nf M→Calls pQ 88 #[π (some ⟨bv,0,none⟩),U κ q] w1 fun e w'=>e=ρ (U κ (masE (y:Int)))∧Fr (at' bv) w1 w'∧IsMd w' D nf { M with V:=some (masS S ((min (c.r b) 256:Nat):Int)) }:=fun w1 q hq h1=>by
  subst hq
  have hv:=h1.v
  rw[HV.out,HB.out] at hv
  exact(rmask_any w1 bv S hv (y:Int)).mono fun e w' ⟨he,f,q⟩=>⟨he,f,by rw[hy];exact h1.vg HB.out f q⟩
 rw[hy] at HMN
 clear hy
 have NN:Hid (gm≠bv∧gi≠bv∧gc≠bv∧gr≠bv∧gt≠bv∧gn≠bv):=(show _∧_ by have:=HL.out bv (Or.inl (Or.inr (Or.inr HB.out)));have:=HG.out;have:=HN.out;omega)
 go_upto_region 16 with fail
 have h3d:=h3.drew
 rcases Decidable.em ((256:Int)<((c.r b:Nat):Int)) with hq | hq
 all_goals
  go_region_held3 (fun w'=>w'.cell? ⟨gm,2,none⟩=some (π (some ⟨bv,0,none⟩))∧w'.cell? ⟨gi,2,none⟩=some (U κ (b:Int))∧w'.cell? ⟨gc,b,none⟩=some (U μ ((c.r b:Nat):Int))) (first | with_reducible exact ⟨pm3.cell 2,pi3.cell 2,pc3.rg hb⟩ | exact ⟨pm3.cell 2,pi3.cell 2,pc3.rg hb⟩) (first | (go_at_call 88;refine(HS _ _ (by have hh:=HMN.out;first | (rw[hh,IntKind.wrap_i64];split at hh <;> omega) | (rw[IntKind.wrap_i64];split at hh <;> omega) | (split at hh <;> omega)) h3d).mono ?_;rintro e v4 ⟨rfl,f4,h4⟩;replace f4:=ks f4;replace pm3:=pm3.keep f4 (fun e=>NN.out.1 e);replace pi3:=pi3.keep f4 (fun e=>NN.out.2.1 e);replace pc3:=pc3.keep f4 (fun e=>NN.out.2.2.1 e)))
  clear hq
  replace pr:=pr.keep f4 (fun e=>NN.out.2.2.2.1 e)
  replace pt:=pt.keep f4 (fun e=>NN.out.2.2.2.2.1 e)
  replace pn:=pn.keep f4 (fun e=>NN.out.2.2.2.2.2 e)
  replace f4:=f3.trans (frd_v HB.out f4)
  clear h3d h3 f3 pm3 pi3 pc3 HS x0 x1 x2 x3 x4
  have nrt:¬ at' gr gt:=fun e=>by have e':gt=gr:=e;have:=HG.out;omega
  have ntr:¬ at' gt gr:=fun e=>by have e':gr=gt:=e;have:=HG.out;omega
  have pt1:=pt.keep (bb v4 gr (cpA ((c.setP ((c.pc+4)%65536)).setS i (c.r b)))) nrt
  have qt:=pt1.setRow (A:=#[U κ 0,U κ 0,U κ 0,U κ 0,U κ 0,U κ 0,β false,U κ 0])
  have qr:=(pr.setRow (A:=cpA ((c.setP ((c.pc+4)%65536)).setS i (c.r b)))).keep (bb _ gt #[U κ 0,U κ 0,U κ 0,U κ 0,U κ 0,U κ 0,β false,U κ 0]) ntr
  have HE:Hid (Fr D.s w ((v4.setRow gr (cpA ((c.setP ((c.pc+4)%65536)).setS i (c.r b)))).setRow gt #[U κ 0,U κ 0,U κ 0,U κ 0,U κ 0,U κ 0,β false,U κ 0])∧IsMd ((v4.setRow gr (cpA ((c.setP ((c.pc+4)%65536)).setS i (c.r b)))).setRow gt #[U κ 0,U κ 0,U κ 0,U κ 0,U κ 0,U κ 0,β false,U κ 0]) D nf _):=⟨bp (bp f4 (g:=gr) (by have:=HG.out;omega) _) (g:=gt) (by have:=HG.out;omega) _,(h4.past (bb _ gr _) (fun k hk=>by have:=HL.out k hk;have:=HG.out;omega)).past (bb _ gt _) (fun k hk=>by have:=HL.out k hk;have:=HG.out;omega)⟩
  go_wp2_with (first | refine bh rfl 30 _ rfl gn rfl (cpA ((c.setP ((c.pc+4)%65536)).setS i (c.r b))) _ (cq pn) Tryz.underlying30 rfl (bk _) ?_ | refine wpList_store_row rfl 30 _ _ rfl gr (cpA ((c.setP ((c.pc+4)%65536)).setS i (c.r b))) rfl rfl 30 _ pr (bk _) (bj _).symm (bw _) ?_ | refine wpList_store_row rfl 52 _ _ rfl gt #[U κ 0,U κ 0,U κ 0,U κ 0,U κ 0,U κ 0,β false,U κ 0] rfl rfl 52 _ pt1 bn rfl (by simp[Value.oneCell']) ?_)
  refine bodyPost_ret (d8 rfl rfl rfl qr (bj _) qt rfl) rfl ?_
  exact ⟨rfl,HE.out⟩
theorem doth_24 (w:World) (D:Bd) (nf:Nat) (M:Mc) (c:Cp) (_hok:c.Ok) (vm sd fi se:Int) (a b d i:Nat) (_ha:a<16) (_hb:b<16) (_hi:i<65536) (hp:0≤c.pc∧c.pc≤65535) (h:IsMd w D nf M) (hG:kh M.T) (hz:0≤vm∨∀ k,k<8→M.T k=zl) (hsd:0≤sd) :
  Calls pQ 37 #[D.a,.agg (cpA c),.agg #[U κ 24,U κ (a:Int),U κ (b:Int),U κ (d:Int),U κ (i:Int)],.agg #[U κ vm,U κ sd,U κ fi,U κ se]] w fun e w'=>e=ρ (τ #[.agg (cpA ((c.setP ((c.pc+4)%65536)))),.agg (trL (t0))])∧Fr D.s w w'∧IsMd w' D nf ({ M with T:=ts (fun l=>l.v == vm && l.a == sd) M.T }):=by
 unfold Bd.a
 have HL:Hid (∀ k,D.y k→k<w.heap.size):=h.lt
 obtain ⟨v0,gm,gc,gi,gs,gr,gt,hv0,hgm,hgc,hgi,hgs,hgr,hgt,HG,pm,pc,pi,ps,pr,pt,f0⟩:=co w D c 24 a b d i vm sd fi se
 go_enter Tryz.func37,Tryz.ntmps37
 go_upto_region 1 with fail
 rw[←hv0,←hgt,←hgr,←hgs,←hgi,←hgc,←hgm]
 clear hv0 hgm hgc hgi hgs hgr hgt
 have yp:=pc.pc
 have e4:IntKind.i64.wrap (c.pc+4)=c.pc+4:=by rw[IntKind.wrap_i64];omega
 go_wp2_with (refine bh rfl 30 _ rfl gc rfl (cpA c) _ (cq pc) Tryz.underlying30 rfl (bk _) ?_)
 refine(cn _ c (c.pc+4) (by omega)).mono ?_
 rintro e v1 ⟨rfl,f1⟩
 have f01:Fr bg v0 v1:=f1
 replace f1:=f0.trans f1
 have hsz:=f1.size
 have HN0:Hid (gm<v1.heap.size∧gc<v1.heap.size∧gi<v1.heap.size∧gs<v1.heap.size∧gr<v1.heap.size∧gt<v1.heap.size):=(show _∧_ by have:=pm.lt;have:=pc.lt;have:=pi.lt;have:=ps.lt;have:=pr.lt;have:=pt.lt;have:=‹Fr bg v0 v1›.size;omega)
 clear yp e4
 replace pm:=pm.keep f01 (fun h=>h)
 replace pc:=pc.keep f01 (fun h=>h)
 replace pi:=pi.keep f01 (fun h=>h)
 replace ps:=ps.keep f01 (fun h=>h)
 replace pr:=pr.keep f01 (fun h=>h)
 replace pt:=pt.keep f01 (fun h=>h)
 obtain ⟨v2,gn,hv2,hgn,pn,pn2,fa⟩:=nxt v1 ((c.setP ((c.pc+4)%65536)))
 clear f01 f0
 go_upto_region 2 with(refine wpList_store_row rfl 30 _ _ rfl v1.heap.size (cpA (c.setP ((c.pc+4)%65536))) rfl rfl 30 _ pn (bk _) (bj _).symm (bw _) ?_)
 clear pn
 rw[←hv2,←hgn]
 rw[←hgn] at HN0 hsz
 clear hv2 hgn
 replace pm:=pm.keep fa (fun h=>h)
 replace pc:=pc.keep fa (fun h=>h)
 replace pi:=pi.keep fa (fun h=>h)
 replace ps:=ps.keep fa (fun h=>h)
 replace pr:=pr.keep fa (fun h=>h)
 replace pt:=pt.keep fa (fun h=>h)
 replace f1:=f1.trans fa
 have h2:=h.keep0 f1
 have f2:Fr D.s w v2:=di f1
 clear f1 fa h
 have HN:Hid (w.heap.size≤gn):=hsz
 clear hsz
 have pn:=pn2
 clear pn2
 obtain ⟨x0,x1,x2,x3,x4⟩:=bl pi
 obtain ⟨m0,m1,m2⟩:v2.cell? ⟨gm,0,none⟩=some (π (some ⟨D.p,0,none⟩))∧v2.cell? ⟨gm,1,none⟩=some (π (some ⟨D.t,0,none⟩))∧v2.cell? ⟨gm,2,none⟩=some (gu D.v):=⟨pm.cell 0,pm.cell 1,pm.cell 2⟩
 obtain ⟨s0,s1⟩:v2.cell? ⟨gs,0,none⟩=some (U κ vm)∧v2.cell? ⟨gs,1,none⟩=some (U κ sd):=⟨ps.cell 0,ps.cell 1⟩
 have NN:Hid (gr≠D.t∧gt≠D.t∧gn≠D.t):=(show _∧_ by have:=HL.out D.t (Or.inl (Or.inr (Or.inl rfl)));have:=HG.out;have:=HN.out;omega)
 clear pm ps pi pc
 go_wp2_with fail
 refine(rflush_any _ D.t M.T M.fo M.mi vm sd (-1) h2.t hG).mono ?_
 rintro e v4 ⟨rfl,f4,t4⟩
 replace t4:=t4.congr (T':=ts (fun l=>l.v == vm && l.a == sd) M.T) (fun k hk=>by
  rcases hz with hvm | hz
  ·have hfl:da vm sd (-1)=(fun l=>l.v == vm && l.a == sd):=by
    funext l
    unfold da
    rw[decide_eq_false (show ¬ vm<0 by omega),decide_eq_false (show ¬ sd<0 by omega),decide_eq_true (show(-1:Int)<0 by decide)]
    simp
   rw[hfl]
  ·unfold ts
   rw[hz k hk]
   cases ll (da vm sd (-1)) zl <;> cases ll (fun l=>l.v == vm && l.a == sd) zl <;> rfl)
 have h4:=h2.buf f4 t4
 replace pr:=pr.keep f4 (fun e=>NN.out.1 e)
 replace pt:=pt.keep f4 (fun e=>NN.out.2.1 e)
 replace pn:=pn.keep f4 (fun e=>NN.out.2.2 e)
 replace f4:=f2.trans (frd_t f4)
 clear m0 m1 m2 s0 s1 x0 x1 x2 x3 x4 h2 f2 t4
 have nrt:¬ at' gr gt:=fun e=>by have e':gt=gr:=e;have:=HG.out;omega
 have ntr:¬ at' gt gr:=fun e=>by have e':gr=gt:=e;have:=HG.out;omega
 have pt1:=pt.keep (bb v4 gr (cpA ((c.setP ((c.pc+4)%65536))))) nrt
 have qt:=pt1.setRow (A:=#[U κ 0,U κ 0,U κ 0,U κ 0,U κ 0,U κ 0,β false,U κ 0])
 have qr:=(pr.setRow (A:=cpA ((c.setP ((c.pc+4)%65536))))).keep (bb _ gt #[U κ 0,U κ 0,U κ 0,U κ 0,U κ 0,U κ 0,β false,U κ 0]) ntr
 have HE:Hid (Fr D.s w ((v4.setRow gr (cpA ((c.setP ((c.pc+4)%65536))))).setRow gt #[U κ 0,U κ 0,U κ 0,U κ 0,U κ 0,U κ 0,β false,U κ 0])∧IsMd ((v4.setRow gr (cpA ((c.setP ((c.pc+4)%65536))))).setRow gt #[U κ 0,U κ 0,U κ 0,U κ 0,U κ 0,U κ 0,β false,U κ 0]) D nf _):=⟨bp (bp f4 (g:=gr) (by have:=HG.out;omega) _) (g:=gt) (by have:=HG.out;omega) _,(h4.past (bb _ gr _) (fun k hk=>by have:=HL.out k hk;have:=HG.out;omega)).past (bb _ gt _) (fun k hk=>by have:=HL.out k hk;have:=HG.out;omega)⟩
 go_wp2_with (first | refine bh rfl 30 _ rfl gn rfl (cpA ((c.setP ((c.pc+4)%65536)))) _ (cq pn) Tryz.underlying30 rfl (bk _) ?_ | refine wpList_store_row rfl 30 _ _ rfl gr (cpA ((c.setP ((c.pc+4)%65536)))) rfl rfl 30 _ pr (bk _) (bj _).symm (bw _) ?_ | refine wpList_store_row rfl 52 _ _ rfl gt #[U κ 0,U κ 0,U κ 0,U κ 0,U κ 0,U κ 0,β false,U κ 0] rfl rfl 52 _ pt1 bn rfl (by simp[Value.oneCell']) ?_)
 refine bodyPost_ret (d8 rfl rfl rfl qr (bj _) qt rfl) rfl ?_
 exact ⟨rfl,HE.out⟩
end Go.Proofs.YtibhbjbpodlpiaaGreat
