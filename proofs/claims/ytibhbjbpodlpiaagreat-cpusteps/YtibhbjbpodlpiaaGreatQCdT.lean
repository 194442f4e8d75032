/-
  Contracts over the translation. No statement is proved here.
-/
import Derived.Test.YtibhbjbpodlpiaaGreatQCpuStep2
import Derived.Test.YtibhbjbpodlpiaaGreatQJU
set_option maxRecDepth 100000
set_option maxHeartbeats 8000000
namespace Go.Proofs.YtibhbjbpodlpiaaGreat
open Go.RowKit
open Go.Value renaming int → U, bool → β, pointer → π, tuple → τ
open Go.IntKind renaming i64 → κ, u32 → μ
open Go.Obj renaming cells → ω
open Go.Ending renaming returned → ρ
open Go.Proofs.Tryz renaming prog → pQ
open List renaming setIfInBounds_toArray → sA, set_cons_succ → sB, set_cons_zero → sC
theorem IsMd.mem {w w':World} {D:Bd} {nf:Nat} {M:Mc} (h:IsMd w D nf M) (f:Fr (at' D.f) w w') {bs:List UInt8} (hr:IsRef w' D.p D.f nf bs):IsMd w' D nf { M with bs:=bs }:=
 ⟨hr,h.t.keep f (fun e=>h.d2 (Eq.symm e)),h.v.keep f (fun k hk e=>(h.e k hk).2.1 e),h.d1,h.d2,h.e⟩
theorem frd_f {w w':World} {D:Bd} (f:Fr (at' D.f) w w'):Fr D.s w w':=f.mono (fun _ _ h=>Or.inl h)
theorem dtch_mis7 (w:World) (D:Bd) (nf:Nat) (M:Mc) (c:Cp) (hok:c.Ok) (vm sd fi se ix:Int) (a b d i:Nat) (_ha:a<16) (hb:b<16) (hi:i<65536) (_hp:0≤c.pc∧c.pc≤65535) (h:IsMd w D nf M) (A:Int) (hAd:A=(((c.r b+i)%65536:Nat):Int)) (hq:A%4≠0) :
  Calls pQ 35 #[D.a,.agg (cpA c),.agg #[U κ 7,U κ (a:Int),U κ (b:Int),U κ (d:Int),U κ (i:Int)],.agg #[U κ vm,U κ sd,U κ fi,U κ se],U κ ix] w fun e w'=>e=ρ (τ #[.agg (cpA c),.agg (trL ⟨4,0,A,f0⟩)])∧Fr D.s w w'∧IsMd w' D nf M:=by
 unfold Bd.a
 have HL:Hid (∀ k,D.y k→k<w.heap.size):=h.lt
 obtain ⟨v0,gm,gc,gi,gs,gr,gt,hv0,hgm,hgc,hgi,hgs,hgr,hgt,HG,pm,pc,pi,ps,pr,pt,f0⟩:=co w D c 7 a b d i vm sd fi se
 go_enter Tryz.func35,Tryz.ntmps35
 go_upto_region 1 with fail
 rw[←hv0,←hgt,←hgr,←hgs,←hgi,←hgc,←hgm]
 clear hv0 hgm hgc hgi hgs hgr hgt
 have yb:v0.cell? ⟨gc,b,none⟩=some (U μ ((c.r b:Nat):Int)):=pc.rg hb
 obtain ⟨x0,x1,x2,x3,x4⟩:=bl pi
 have ib:0≤(b:Int)∧(b:Int)<16:=by omega
 have rb:=hok.r b
 have e1:=m5 i (by omega)
 have e2:IntKind.u32.wrap (((c.r b:Nat):Int)+(i:Int))=(((c.r b+i)%4294967296:Nat):Int):=by rw[IntKind.wrap_u32];omega
 obtain ⟨s,hs⟩:∃ s:Nat,(c.r b+i)%4294967296=s:=⟨_,rfl⟩
 have hsl:s<4294967296:=by omega
 have hA:A=((s%65536:Nat):Int):=by rw[hAd];omega
 rw[hs] at e2
 have e3:((s:Int)%65536)=A:=by omega
 have e7:(((c.r b:Nat):Int)+(i:Int))%4294967296=(s:Int):=by omega
 have hAr:0≤A∧A≤65535:=by omega
 clear hs hA
 have e5:A.tmod 4=A%4:=Int.tmod_eq_emod_of_nonneg hAr.1
 have t1:(A%4 != 0)=true:=by simp[hq]
 clear hAd
 go_wp2_with fail
 go_quiet (fail)
 go_upto_region 6 with fail
 have fd:Fr bg v0 (v0.drewN nq):=bo v0 nq
 replace pc:=pc.keep fd (fun h=>h)
 replace pr:=pr.keep fd (fun h=>h)
 replace pt:=pt.keep fd (fun h=>h)
 have h1:=h.keep0 (f0.trans fd)
 have f1:Fr D.s w (v0.drewN nq):=(di f0).trans (di fd)
 clear fd f0
 obtain ⟨v1,hv1⟩:∃ v1,v1=v0.drewN nq:=⟨_,rfl⟩
 rw[←hv1] at pc pr pt h1 f1 ⊢
 clear hv1
 have nrt:¬ at' gr gt:=fun e=>by have e':gt=gr:=e;have:=HG.out;omega
 have ntr:¬ at' gt gr:=fun e=>by have e':gr=gt:=e;have:=HG.out;omega
 have pt1:=pt.keep (bb v1 gr (cpA (c))) nrt
 have qt:=pt1.setRow (A:=#[U κ 4,U κ 0,U κ A,U κ 0,U κ 0,U κ 0,β false,U κ 0])
 have qr:=(pr.setRow (A:=cpA (c))).keep (bb _ gt #[U κ 4,U κ 0,U κ A,U κ 0,U κ 0,U κ 0,β false,U κ 0]) ntr
 have HE:Hid (Fr D.s w ((v1.setRow gr (cpA (c))).setRow gt #[U κ 4,U κ 0,U κ A,U κ 0,U κ 0,U κ 0,β false,U κ 0])∧IsMd ((v1.setRow gr (cpA (c))).setRow gt #[U κ 4,U κ 0,U κ A,U κ 0,U κ 0,U κ 0,β false,U κ 0]) D nf _):=⟨bp (bp f1 (g:=gr) (by have:=HG.out;omega) _) (g:=gt) (by have:=HG.out;omega) _,(h1.past (bb _ gr _) (fun k hk=>by have:=HL.out k hk;have:=HG.out;omega)).past (bb _ gt _) (fun k hk=>by have:=HL.out k hk;have:=HG.out;omega)⟩
 go_wp2_with (first | refine bh rfl 30 _ rfl gc rfl (cpA (c)) _ (cq pc) Tryz.underlying30 rfl (bk _) ?_ | refine wpList_store_row rfl 30 _ _ rfl gr (cpA (c)) rfl rfl 30 _ pr (bk _) (bj _).symm (bw _) ?_ | refine wpList_store_row rfl 52 _ _ rfl gt #[U κ 4,U κ 0,U κ A,U κ 0,U κ 0,U κ 0,β false,U κ 0] rfl rfl 52 _ pt1 bn rfl (by simp[Value.oneCell']) ?_)
 refine bodyPost_ret (d8 rfl rfl rfl qr (bj _) qt rfl) rfl ?_
 exact ⟨rfl,HE.out⟩
theorem dtch_mis8 (w:World) (D:Bd) (nf:Nat) (M:Mc) (c:Cp) (hok:c.Ok) (vm sd fi se ix:Int) (a b d i:Nat) (_ha:a<16) (hb:b<16) (hi:i<65536) (_hp:0≤c.pc∧c.pc≤65535) (h:IsMd w D nf M) (A:Int) (hAd:A=(((c.r b+i)%65536:Nat):Int)) (hq:A%4≠0) :
  Calls pQ 35 #[D.a,.agg (cpA c),.agg #[U κ 8,U κ (a:Int),U κ (b:Int),U κ (d:Int),U κ (i:Int)],.agg #[U κ vm,U κ sd,U κ fi,U κ se],U κ ix] w fun e w'=>e=ρ (τ #[.agg (cpA c),.agg (trL ⟨4,0,A,f0⟩)])∧Fr D.s w w'∧IsMd w' D nf M:=by
 unfold Bd.a
 have HL:Hid (∀ k,D.y k→k<w.heap.size):=h.lt
 obtain ⟨v0,gm,gc,gi,gs,gr,gt,hv0,hgm,hgc,hgi,hgs,hgr,hgt,HG,pm,pc,pi,ps,pr,pt,f0⟩:=co w D c 8 a b d i vm sd fi se
 go_enter Tryz.func35,Tryz.ntmps35
 go_upto_region 1 with fail
 rw[←hv0,←hgt,←hgr,←hgs,←hgi,←hgc,←hgm]
 clear hv0 hgm hgc hgi hgs hgr hgt
 have yb:v0.cell? ⟨gc,b,none⟩=some (U μ ((c.r b:Nat):Int)):=pc.rg hb
 obtain ⟨x0,x1,x2,x3,x4⟩:=bl pi
 have ib:0≤(b:Int)∧(b:Int)<16:=by omega
 have rb:=hok.r b
 have e1:=m5 i (by omega)
 have e2:IntKind.u32.wrap (((c.r b:Nat):Int)+(i:Int))=(((c.r b+i)%4294967296:Nat):Int):=by rw[IntKind.wrap_u32];omega
 obtain ⟨s,hs⟩:∃ s:Nat,(c.r b+i)%4294967296=s:=⟨_,rfl⟩
 have hsl:s<4294967296:=by omega
 have hA:A=((s%65536:Nat):Int):=by rw[hAd];omega
 rw[hs] at e2
 have e3:((s:Int)%65536)=A:=by omega
 have e7:(((c.r b:Nat):Int)+(i:Int))%4294967296=(s:Int):=by omega
 have hAr:0≤A∧A≤65535:=by omega
 clear hs hA
 have e5:A.tmod 4=A%4:=Int.tmod_eq_emod_of_nonneg hAr.1
 have t1:(A%4 != 0)=true:=by simp[hq]
 clear hAd
 go_wp2_with fail
 go_quiet (fail)
 go_upto_region 6 with fail
 have fd:Fr bg v0 (v0.drewN nq):=bo v0 nq
 replace pc:=pc.keep fd (fun h=>h)
 replace pr:=pr.keep fd (fun h=>h)
 replace pt:=pt.keep fd (fun h=>h)
 have h1:=h.keep0 (f0.trans fd)
 have f1:Fr D.s w (v0.drewN nq):=(di f0).trans (di fd)
 clear fd f0
 obtain ⟨v1,hv1⟩:∃ v1,v1=v0.drewN nq:=⟨_,rfl⟩
 rw[←hv1] at pc pr pt h1 f1 ⊢
 clear hv1
 have nrt:¬ at' gr gt:=fun e=>by have e':gt=gr:=e;have:=HG.out;omega
 have ntr:¬ at' gt gr:=fun e=>by have e':gr=gt:=e;have:=HG.out;omega
 have pt1:=pt.keep (bb v1 gr (cpA (c))) nrt
 have qt:=pt1.setRow (A:=#[U κ 4,U κ 0,U κ A,U κ 0,U κ 0,U κ 0,β false,U κ 0])
 have qr:=(pr.setRow (A:=cpA (c))).keep (bb _ gt #[U κ 4,U κ 0,U κ A,U κ 0,U κ 0,U κ 0,β false,U κ 0]) ntr
 have HE:Hid (Fr D.s w ((v1.setRow gr (cpA (c))).setRow gt #[U κ 4,U κ 0,U κ A,U κ 0,U κ 0,U κ 0,β false,U κ 0])∧IsMd ((v1.setRow gr (cpA (c))).setRow gt #[U κ 4,U κ 0,U κ A,U κ 0,U κ 0,U κ 0,β false,U κ 0]) D nf _):=⟨bp (bp f1 (g:=gr) (by have:=HG.out;omega) _) (g:=gt) (by have:=HG.out;omega) _,(h1.past (bb _ gr _) (fun k hk=>by have:=HL.out k hk;have:=HG.out;omega)).past (bb _ gt _) (fun k hk=>by have:=HL.out k hk;have:=HG.out;omega)⟩
 go_wp2_with (first | refine bh rfl 30 _ rfl gc rfl (cpA (c)) _ (cq pc) Tryz.underlying30 rfl (bk _) ?_ | refine wpList_store_row rfl 30 _ _ rfl gr (cpA (c)) rfl rfl 30 _ pr (bk _) (bj _).symm (bw _) ?_ | refine wpList_store_row rfl 52 _ _ rfl gt #[U κ 4,U κ 0,U κ A,U κ 0,U κ 0,U κ 0,β false,U κ 0] rfl rfl 52 _ pt1 bn rfl (by simp[Value.oneCell']) ?_)
 refine bodyPost_ret (d8 rfl rfl rfl qr (bj _) qt rfl) rfl ?_
 exact ⟨rfl,HE.out⟩
theorem dtch_flt7 (w:World) (D:Bd) (nf:Nat) (M:Mc) (c:Cp) (hok:c.Ok) (vm sd fi se ix:Int) (a b d i:Nat) (_ha:a<16) (hb:b<16) (hi:i<65536) (_hp:0≤c.pc∧c.pc≤65535) (h:IsMd w D nf M) (A:Int) (hAd:A=(((c.r b+i)%65536:Nat):Int)) {n:Nat} (hm:M.few n) (hn:n<999990) (hq:A%4=0) (hk:(rcF M nf vm sd fi se A 1).k≠0) :
  Calls pQ 35 #[D.a,.agg (cpA c),.agg #[U κ 7,U κ (a:Int),U κ (b:Int),U κ (d:Int),U κ (i:Int)],.agg #[U κ vm,U κ sd,U κ fi,U κ se],U κ ix] w fun e w'=>e=ρ (τ #[.agg (cpA c),.agg (trL ⟨2,0,A,rcF M nf vm sd fi se A 1⟩)])∧Fr D.s w w'∧IsMd w' D nf (rcM M nf vm sd fi se A 1 ix):=by
 have hA0:0≤A∧A≤65535:=by omega
 have HR:=fun w1 (h1:IsMd w1 D nf M)=>gv w1 D nf M vm sd fi se A 1 ix h1 hm hn hA0
 obtain ⟨M',hM'⟩:∃ M',rcM M nf vm sd fi se A 1 ix=M':=⟨_,rfl⟩
 obtain ⟨F,hF⟩:∃ F,rcF M nf vm sd fi se A 1=F:=⟨_,rfl⟩
 obtain ⟨P,hP⟩:∃ P,rcP M nf vm sd fi se A 1=P:=⟨_,rfl⟩
 rw[hM',hF,hP] at HR
 simp only[hM',hF] at hk ⊢
 clear hM' hF hP hm
 unfold Bd.a at HR ⊢
 have HL:Hid (∀ k,D.y k→k<w.heap.size):=h.lt
 obtain ⟨v0,gm,gc,gi,gs,gr,gt,hv0,hgm,hgc,hgi,hgs,hgr,hgt,HG,pm,pc,pi,ps,pr,pt,f0⟩:=co w D c 7 a b d i vm sd fi se
 go_enter Tryz.func35,Tryz.ntmps35
 go_upto_region 1 with fail
 rw[←hv0,←hgt,←hgr,←hgs,←hgi,←hgc,←hgm]
 clear hv0 hgm hgc hgi hgs hgr hgt
 have yb:v0.cell? ⟨gc,b,none⟩=some (U μ ((c.r b:Nat):Int)):=pc.rg hb
 obtain ⟨x0,x1,x2,x3,x4⟩:=bl pi
 have ib:0≤(b:Int)∧(b:Int)<16:=by omega
 have rb:=hok.r b
 have e1:=m5 i (by omega)
 have e2:IntKind.u32.wrap (((c.r b:Nat):Int)+(i:Int))=(((c.r b+i)%4294967296:Nat):Int):=by rw[IntKind.wrap_u32];omega
 obtain ⟨s,hs⟩:∃ s:Nat,(c.r b+i)%4294967296=s:=⟨_,rfl⟩
 have hsl:s<4294967296:=by omega
 have hA:A=((s%65536:Nat):Int):=by rw[hAd];omega
 rw[hs] at e2
 have e3:((s:Int)%65536)=A:=by omega
 have e7:(((c.r b:Nat):Int)+(i:Int))%4294967296=(s:Int):=by omega
 have hAr:0≤A∧A≤65535:=by omega
 clear hs hA
 have e5:A.tmod 4=0:=by rw[Int.tmod_eq_emod_of_nonneg hAr.1];exact hq
 clear hAd hq
 go_wp2_with fail
 go_quiet (fail)
 go_upto_region 13 with fail
 have fd:Fr bg v0 (v0.drewN nq):=bo v0 nq
 replace pm:=pm.keep fd (fun h=>h)
 replace pc:=pc.keep fd (fun h=>h)
 replace pi:=pi.keep fd (fun h=>h)
 replace ps:=ps.keep fd (fun h=>h)
 replace pr:=pr.keep fd (fun h=>h)
 replace pt:=pt.keep fd (fun h=>h)
 have h1:=h.keep0 (f0.trans fd)
 have f1:Fr D.s w (v0.drewN nq):=(di f0).trans (di fd)
 clear fd f0
 obtain ⟨v1,hv1⟩:∃ v1,v1=v0.drewN nq:=⟨_,rfl⟩
 rw[←hv1] at pm pc pi ps pr pt h1 f1 ⊢
 clear hv1
 obtain ⟨m0,m1,m2⟩:v1.cell? ⟨gm,0,none⟩=some (π (some ⟨D.p,0,none⟩))∧v1.cell? ⟨gm,1,none⟩=some (π (some ⟨D.t,0,none⟩))∧v1.cell? ⟨gm,2,none⟩=some (gu D.v):=⟨pm.cell 0,pm.cell 1,pm.cell 2⟩
 obtain ⟨s0,s1,s2,s3⟩:v1.cell? ⟨gs,0,none⟩=some (U κ vm)∧v1.cell? ⟨gs,1,none⟩=some (U κ sd)∧v1.cell? ⟨gs,2,none⟩=some (U κ fi)∧v1.cell? ⟨gs,3,none⟩=some (U κ se):=⟨ps.cell 0,ps.cell 1,ps.cell 2,ps.cell 3⟩
 go_wp2_with fail
 refine(HR v1 h1).mono ?_
 rintro e v2 ⟨rfl,f2,h2⟩
 clear HR h1 m0 m1 m2 s0 s1 s2 s3 x0 x1 x2 x3 x4 yb ps
 have ng:∀ g,w.heap.size≤g→¬ D.s g:=fun g hg e=>absurd (HL.out _ (Or.inl e)) (by omega)
 replace pm:=pm.keep f2 (ng _ (by have:=HG.out;omega))
 replace pc:=pc.keep f2 (ng _ (by have:=HG.out;omega))
 replace pi:=pi.keep f2 (ng _ (by have:=HG.out;omega))
 replace pr:=pr.keep f2 (ng _ (by have:=HG.out;omega))
 replace pt:=pt.keep f2 (ng _ (by have:=HG.out;omega))
 replace f2:=f1.trans f2
 clear f1 ng
 have HS2:gr<v2.heap.size∧gt<v2.heap.size∧gc<v2.heap.size:=⟨pr.lt,pt.lt,pc.lt⟩
 have t2:(F.k != 0)=true:=by simp[hk]
 go_upto_region 15 with fail
 have pf:=ba v2 #[U κ F.k,U κ F.s,U κ F.l,β F.wk,U κ F.p] 50
 replace pc:=pc.alloc (ω #[U κ F.k,U κ F.s,U κ F.l,β F.wk,U κ F.p] 50)
 replace pr:=pr.alloc (ω #[U κ F.k,U κ F.s,U κ F.l,β F.wk,U κ F.p] 50)
 replace pt:=pt.alloc (ω #[U κ F.k,U κ F.s,U κ F.l,β F.wk,U κ F.p] 50)
 have h3:=h2.alloc (ω #[U κ F.k,U κ F.s,U κ F.l,β F.wk,U κ F.p] 50)
 have f3:=f2.alloc (ω #[U κ F.k,U κ F.s,U κ F.l,β F.wk,U κ F.p] 50)
 have H2:Hid (gr<v2.heap.size∧gt<v2.heap.size∧gc<v2.heap.size∧w.heap.size≤v2.heap.size):=(show _∧_ from ⟨HS2.1,HS2.2.1,HS2.2.2,f2.size⟩)
 clear pm pi h2 f2 HS2
 obtain ⟨v3,hv3⟩:∃ v3,v3=v2.alloc (ω #[U κ F.k,U κ F.s,U κ F.l,β F.wk,U κ F.p] 50):=⟨_,rfl⟩
 rw[←hv3] at pf pc pr pt h3 f3 ⊢
 clear hv3
 obtain ⟨gf,hgf⟩:∃ g,g=v2.heap.size:=⟨_,rfl⟩
 rw[←hgf] at pf H2 ⊢
 clear hgf
 have nrt:¬ at' gr gt:=fun e=>by have e':gt=gr:=e;have:=HG.out;omega
 have ntr:¬ at' gt gr:=fun e=>by have e':gr=gt:=e;have:=HG.out;omega
 have pt1:=pt.keep (bb v3 gr (cpA (c))) nrt
 have qt:=pt1.setRow (A:=#[U κ 2,U κ 0,U κ A,U κ F.k,U κ F.s,U κ F.l,β F.wk,U κ F.p])
 have qr:=(pr.setRow (A:=cpA (c))).keep (bb _ gt #[U κ 2,U κ 0,U κ A,U κ F.k,U κ F.s,U κ F.l,β F.wk,U κ F.p]) ntr
 have HE:Hid (Fr D.s w ((v3.setRow gr (cpA (c))).setRow gt #[U κ 2,U κ 0,U κ A,U κ F.k,U κ F.s,U κ F.l,β F.wk,U κ F.p])∧IsMd ((v3.setRow gr (cpA (c))).setRow gt #[U κ 2,U κ 0,U κ A,U κ F.k,U κ F.s,U κ F.l,β F.wk,U κ F.p]) D nf _):=⟨bp (bp f3 (g:=gr) (by have:=HG.out;omega) _) (g:=gt) (by have:=HG.out;omega) _,(h3.past (bb _ gr _) (fun k hk=>by have:=HL.out k hk;have:=HG.out;omega)).past (bb _ gt _) (fun k hk=>by have:=HL.out k hk;have:=HG.out;omega)⟩
 have pc1:=(pc.keep (bb v3 gr (cpA c)) (fun e=>by have e':gc=gr:=e;have:=HG.out;omega))
 have pf1:=(pf.keep (bb v3 gr (cpA c)) (fun e=>by have e':gf=gr:=e;have:=H2.out;omega))
 have pc3:=pc1.keep (bb _ gt #[U κ 2,U κ 0,U κ A,U κ F.k,U κ F.s,U κ F.l,β F.wk,U κ F.p]) (fun e=>by have e':gc=gt:=e;have:=HG.out;omega)
 have pf3:=pf1.keep (bb _ gt #[U κ 2,U κ 0,U κ A,U κ F.k,U κ F.s,U κ F.l,β F.wk,U κ F.p]) (fun e=>by have e':gf=gt:=e;have:=H2.out;omega)
 refine wp_region_held (S:=fun w'=>Row w' gc (cpA c) 30∧Row w' gf #[U κ F.k,U κ F.s,U κ F.l,β F.wk,U κ F.p] 50) (by kernel_rfl) ?_
 change wpAnyH _ _ _ _ _ _ _ _ (World.drew _)
 refine wpAnyH_take (i:=0) (v:=.agg (cpL c).toArray) rfl (by kernel_rfl) (by kernel_rfl) (by kernel_rfl) (fun _ _ _ h=>h) (yieldsIf_load_mid (by kernel_rfl) 30 _ rfl gc 0 rfl (cpL c) _ (fun _ h=>dc h.1) Tryz.underlying30 rfl (dw c)) ⟨pc.drew,pf.drew⟩ ?_
 show wpAnyH _ _ _ _ _ _ _ (Act.put _ (some 68) _) _
 simp only[Act.put,sA,sB,sC]
 refine tkQ 1 (v:=?_) rfl (by kernel_rfl) (fun _ _ _ h=>h) (fun w hS=>?_) ⟨pc.drew,pf.drew⟩ ?_
 rotate_left
 ·go_simp
  try with_reducible rfl
 show wpAnyH _ _ _ _ _ _ _ (Act.put _ (some 69) _) _
 simp only[Act.put,sA,sB,sC]
 refine tkQ 2 (v:=?_) rfl (by kernel_rfl) (fun _ _ _ h=>h) (fun w hS=>?_) ⟨pc.drew,pf.drew⟩ ?_
 rotate_left
 ·go_simp
  try with_reducible rfl
 show wpAnyH _ _ _ _ _ _ _ (Act.put _ (some 70) _) _
 simp only[Act.put,sA,sB,sC]
 refine tkQ 3 (v:=?_) rfl (by kernel_rfl) (fun _ _ _ h=>h) (fun w hS=>?_) ⟨pc.drew,pf.drew⟩ ?_
 rotate_left
 ·obtain ⟨y0,y1,y2,y3,y4⟩:=bl hS.2;go_simp
  try with_reducible rfl
 show wpAnyH _ _ _ _ _ _ _ (Act.put _ (some 71) _) _
 simp only[Act.put,sA,sB,sC]
 refine tkQ 4 (v:=?_) rfl (by kernel_rfl) (fun _ _ _ h=>h) (fun w hS=>?_) ⟨pc.drew,pf.drew⟩ ?_
 rotate_left
 ·go_simp
  try with_reducible rfl
 show wpAnyH _ _ _ _ _ _ _ (Act.put _ (some 72) _) _
 simp only[Act.put,sA,sB,sC]
 refine wpAnyH_all (rs:=[5]) (by kernel_rfl) (by simp) ?_
 intro i hi
 obtain rfl:i=5:=by simpa using hi
 clear hi
 refine ck rfl (by kernel_rfl) ?_
 refine wp_store_row 30 _ _ rfl gr (cpA c) rfl rfl 30 _ pr.drew (bk c) (bj c).symm (bw c) ?_
 refine ⟨⟨pc1.drew,pf1.drew⟩,?_⟩
 show wpAnyH _ _ _ _ _ _ _ _ _
 refine wpAnyH_all (rs:=[6]) (by kernel_rfl) (by simp) ?_
 intro i hi
 obtain rfl:i=6:=by simpa using hi
 clear hi
 refine ck rfl (by kernel_rfl) ?_
 refine wp_store_row 52 _ _ rfl gt #[U κ 2,U κ 0,U κ A,U κ F.k,U κ F.s,U κ F.l,β F.wk,U κ F.p] rfl rfl 52 _ pt1.drew bn rfl (by simp[Value.oneCell']) ?_
 refine ⟨⟨pc3.drew,pf3.drew⟩,?_⟩
 show wpAnyH _ _ _ _ _ _ _ _ _
 refine wpAnyH_done (by kernel_rfl) ?_ _
 go_wp2_with fail
 refine bodyPost_ret (d8 rfl rfl rfl qr.drew (bj _) qt.drew rfl) rfl ?_
 exact ⟨rfl,HE.out.1.drew,HE.out.2.drew⟩
theorem dtch_flt9 (w:World) (D:Bd) (nf:Nat) (M:Mc) (c:Cp) (hok:c.Ok) (vm sd fi se ix:Int) (a b d i:Nat) (_ha:a<16) (hb:b<16) (hi:i<65536) (_hp:0≤c.pc∧c.pc≤65535) (h:IsMd w D nf M) (A:Int) (hAd:A=(((c.r b+i)%65536:Nat):Int)) {n:Nat} (hm:M.few n) (hn:n<999990) (hq:A%1=0) (hk:(rcF M nf vm sd fi se A 1).k≠0) :
  Calls pQ 35 #[D.a,.agg (cpA c),.agg #[U κ 9,U κ (a:Int),U κ (b:Int),U κ (d:Int),U κ (i:Int)],.agg #[U κ vm,U κ sd,U κ fi,U κ se],U κ ix] w fun e w'=>e=ρ (τ #[.agg (cpA c),.agg (trL ⟨2,0,A,rcF M nf vm sd fi se A 1⟩)])∧Fr D.s w w'∧IsMd w' D nf (rcM M nf vm sd fi se A 1 ix):=by
 have hA0:0≤A∧A≤65535:=by omega
 have HR:=fun w1 (h1:IsMd w1 D nf M)=>gv w1 D nf M vm sd fi se A 1 ix h1 hm hn hA0
 obtain ⟨M',hM'⟩:∃ M',rcM M nf vm sd fi se A 1 ix=M':=⟨_,rfl⟩
 obtain ⟨F,hF⟩:∃ F,rcF M nf vm sd fi se A 1=F:=⟨_,rfl⟩
 obtain ⟨P,hP⟩:∃ P,rcP M nf vm sd fi se A 1=P:=⟨_,rfl⟩
 rw[hM',hF,hP] at HR
 simp only[hM',hF] at hk ⊢
 clear hM' hF hP hm
 unfold Bd.a at HR ⊢
 have HL:Hid (∀ k,D.y k→k<w.heap.size):=h.lt
 obtain ⟨v0,gm,gc,gi,gs,gr,gt,hv0,hgm,hgc,hgi,hgs,hgr,hgt,HG,pm,pc,pi,ps,pr,pt,f0⟩:=co w D c 9 a b d i vm sd fi se
 go_enter Tryz.func35,Tryz.ntmps35
 go_upto_region 1 with fail
 rw[←hv0,←hgt,←hgr,←hgs,←hgi,←hgc,←hgm]
 clear hv0 hgm hgc hgi hgs hgr hgt
 have yb:v0.cell? ⟨gc,b,none⟩=some (U μ ((c.r b:Nat):Int)):=pc.rg hb
 obtain ⟨x0,x1,x2,x3,x4⟩:=bl pi
 have ib:0≤(b:Int)∧(b:Int)<16:=by omega
 have rb:=hok.r b
 have e1:=m5 i (by omega)
 have e2:IntKind.u32.wrap (((c.r b:Nat):Int)+(i:Int))=(((c.r b+i)%4294967296:Nat):Int):=by rw[IntKind.wrap_u32];omega
 obtain ⟨s,hs⟩:∃ s:Nat,(c.r b+i)%4294967296=s:=⟨_,rfl⟩
 have hsl:s<4294967296:=by omega
 have hA:A=((s%65536:Nat):Int):=by rw[hAd];omega
 rw[hs] at e2
 have e3:((s:Int)%65536)=A:=by omega
 have e7:(((c.r b:Nat):Int)+(i:Int))%4294967296=(s:Int):=by omega
 have hAr:0≤A∧A≤65535:=by omega
 clear hs hA
 have e5:A.tmod 1=0:=Int.tmod_one A
 clear hAd hq
 go_wp2_with fail
 go_quiet (fail)
 go_upto_region 13 with fail
 have fd:Fr bg v0 (v0.drewN nq):=bo v0 nq
 replace pm:=pm.keep fd (fun h=>h)
 replace pc:=pc.keep fd (fun h=>h)
 replace pi:=pi.keep fd (fun h=>h)
 replace ps:=ps.keep fd (fun h=>h)
 replace pr:=pr.keep fd (fun h=>h)
 replace pt:=pt.keep fd (fun h=>h)
 have h1:=h.keep0 (f0.trans fd)
 have f1:Fr D.s w (v0.drewN nq):=(di f0).trans (di fd)
 clear fd f0
 obtain ⟨v1,hv1⟩:∃ v1,v1=v0.drewN nq:=⟨_,rfl⟩
 rw[←hv1] at pm pc pi ps pr pt h1 f1 ⊢
 clear hv1
 obtain ⟨m0,m1,m2⟩:v1.cell? ⟨gm,0,none⟩=some (π (some ⟨D.p,0,none⟩))∧v1.cell? ⟨gm,1,none⟩=some (π (some ⟨D.t,0,none⟩))∧v1.cell? ⟨gm,2,none⟩=some (gu D.v):=⟨pm.cell 0,pm.cell 1,pm.cell 2⟩
 obtain ⟨s0,s1,s2,s3⟩:v1.cell? ⟨gs,0,none⟩=some (U κ vm)∧v1.cell? ⟨gs,1,none⟩=some (U κ sd)∧v1.cell? ⟨gs,2,none⟩=some (U κ fi)∧v1.cell? ⟨gs,3,none⟩=some (U κ se):=⟨ps.cell 0,ps.cell 1,ps.cell 2,ps.cell 3⟩
 go_wp2_with fail
 refine(HR v1 h1).mono ?_
 rintro e v2 ⟨rfl,f2,h2⟩
 clear HR h1 m0 m1 m2 s0 s1 s2 s3 x0 x1 x2 x3 x4 yb ps
 have ng:∀ g,w.heap.size≤g→¬ D.s g:=fun g hg e=>absurd (HL.out _ (Or.inl e)) (by omega)
 replace pm:=pm.keep f2 (ng _ (by have:=HG.out;omega))
 replace pc:=pc.keep f2 (ng _ (by have:=HG.out;omega))
 replace pi:=pi.keep f2 (ng _ (by have:=HG.out;omega))
 replace pr:=pr.keep f2 (ng _ (by have:=HG.out;omega))
 replace pt:=pt.keep f2 (ng _ (by have:=HG.out;omega))
 replace f2:=f1.trans f2
 clear f1 ng
 have HS2:gr<v2.heap.size∧gt<v2.heap.size∧gc<v2.heap.size:=⟨pr.lt,pt.lt,pc.lt⟩
 have t2:(F.k != 0)=true:=by simp[hk]
 go_upto_region 15 with fail
 have pf:=ba v2 #[U κ F.k,U κ F.s,U κ F.l,β F.wk,U κ F.p] 50
 replace pc:=pc.alloc (ω #[U κ F.k,U κ F.s,U κ F.l,β F.wk,U κ F.p] 50)
 replace pr:=pr.alloc (ω #[U κ F.k,U κ F.s,U κ F.l,β F.wk,U κ F.p] 50)
 replace pt:=pt.alloc (ω #[U κ F.k,U κ F.s,U κ F.l,β F.wk,U κ F.p] 50)
 have h3:=h2.alloc (ω #[U κ F.k,U κ F.s,U κ F.l,β F.wk,U κ F.p] 50)
 have f3:=f2.alloc (ω #[U κ F.k,U κ F.s,U κ F.l,β F.wk,U κ F.p] 50)
 have H2:Hid (gr<v2.heap.size∧gt<v2.heap.size∧gc<v2.heap.size∧w.heap.size≤v2.heap.size):=(show _∧_ from ⟨HS2.1,HS2.2.1,HS2.2.2,f2.size⟩)
 clear pm pi h2 f2 HS2
 obtain ⟨v3,hv3⟩:∃ v3,v3=v2.alloc (ω #[U κ F.k,U κ F.s,U κ F.l,β F.wk,U κ F.p] 50):=⟨_,rfl⟩
 rw[←hv3] at pf pc pr pt h3 f3 ⊢
 clear hv3
 obtain ⟨gf,hgf⟩:∃ g,g=v2.heap.size:=⟨_,rfl⟩
 rw[←hgf] at pf H2 ⊢
 clear hgf
 have nrt:¬ at' gr gt:=fun e=>by have e':gt=gr:=e;have:=HG.out;omega
 have ntr:¬ at' gt gr:=fun e=>by have e':gr=gt:=e;have:=HG.out;omega
 have pt1:=pt.keep (bb v3 gr (cpA (c))) nrt
 have qt:=pt1.setRow (A:=#[U κ 2,U κ 0,U κ A,U κ F.k,U κ F.s,U κ F.l,β F.wk,U κ F.p])
 have qr:=(pr.setRow (A:=cpA (c))).keep (bb _ gt #[U κ 2,U κ 0,U κ A,U κ F.k,U κ F.s,U κ F.l,β F.wk,U κ F.p]) ntr
 have HE:Hid (Fr D.s w ((v3.setRow gr (cpA (c))).setRow gt #[U κ 2,U κ 0,U κ A,U κ F.k,U κ F.s,U κ F.l,β F.wk,U κ F.p])∧IsMd ((v3.setRow gr (cpA (c))).setRow gt #[U κ 2,U κ 0,U κ A,U κ F.k,U κ F.s,U κ F.l,β F.wk,U κ F.p]) D nf _):=⟨bp (bp f3 (g:=gr) (by have:=HG.out;omega) _) (g:=gt) (by have:=HG.out;omega) _,(h3.past (bb _ gr _) (fun k hk=>by have:=HL.out k hk;have:=HG.out;omega)).past (bb _ gt _) (fun k hk=>by have:=HL.out k hk;have:=HG.out;omega)⟩
 have pc1:=(pc.keep (bb v3 gr (cpA c)) (fun e=>by have e':gc=gr:=e;have:=HG.out;omega))
 have pf1:=(pf.keep (bb v3 gr (cpA c)) (fun e=>by have e':gf=gr:=e;have:=H2.out;omega))
 have pc3:=pc1.keep (bb _ gt #[U κ 2,U κ 0,U κ A,U κ F.k,U κ F.s,U κ F.l,β F.wk,U κ F.p]) (fun e=>by have e':gc=gt:=e;have:=HG.out;omega)
 have pf3:=pf1.keep (bb _ gt #[U κ 2,U κ 0,U κ A,U κ F.k,U κ F.s,U κ F.l,β F.wk,U κ F.p]) (fun e=>by have e':gf=gt:=e;have:=H2.out;omega)
 refine wp_region_held (S:=fun w'=>Row w' gc (cpA c) 30∧Row w' gf #[U κ F.k,U κ F.s,U κ F.l,β F.wk,U κ F.p] 50) (by kernel_rfl) ?_
 change wpAnyH _ _ _ _ _ _ _ _ (World.drew _)
 refine wpAnyH_take (i:=0) (v:=.agg (cpL c).toArray) rfl (by kernel_rfl) (by kernel_rfl) (by kernel_rfl) (fun _ _ _ h=>h) (yieldsIf_load_mid (by kernel_rfl) 30 _ rfl gc 0 rfl (cpL c) _ (fun _ h=>dc h.1) Tryz.underlying30 rfl (dw c)) ⟨pc.drew,pf.drew⟩ ?_
 show wpAnyH _ _ _ _ _ _ _ (Act.put _ (some 68) _) _
 simp only[Act.put,sA,sB,sC]
 refine tkQ 1 (v:=?_) rfl (by kernel_rfl) (fun _ _ _ h=>h) (fun w hS=>?_) ⟨pc.drew,pf.drew⟩ ?_
 rotate_left
 ·go_simp
  try with_reducible rfl
 show wpAnyH _ _ _ _ _ _ _ (Act.put _ (some 69) _) _
 simp only[Act.put,sA,sB,sC]
 refine tkQ 2 (v:=?_) rfl (by kernel_rfl) (fun _ _ _ h=>h) (fun w hS=>?_) ⟨pc.drew,pf.drew⟩ ?_
 rotate_left
 ·go_simp
  try with_reducible rfl
 show wpAnyH _ _ _ _ _ _ _ (Act.put _ (some 70) _) _
 simp only[Act.put,sA,sB,sC]
 refine tkQ 3 (v:=?_) rfl (by kernel_rfl) (fun _ _ _ h=>h) (fun w hS=>?_) ⟨pc.drew,pf.drew⟩ ?_
 rotate_left
 ·obtain ⟨y0,y1,y2,y3,y4⟩:=bl hS.2;go_simp
  try with_reducible rfl
 show wpAnyH _ _ _ _ _ _ _ (Act.put _ (some 71) _) _
 simp only[Act.put,sA,sB,sC]
 refine tkQ 4 (v:=?_) rfl (by kernel_rfl) (fun _ _ _ h=>h) (fun w hS=>?_) ⟨pc.drew,pf.drew⟩ ?_
 rotate_left
 ·go_simp
  try with_reducible rfl
 show wpAnyH _ _ _ _ _ _ _ (Act.put _ (some 72) _) _
 simp only[Act.put,sA,sB,sC]
 refine wpAnyH_all (rs:=[5]) (by kernel_rfl) (by simp) ?_
 intro i hi
 obtain rfl:i=5:=by simpa using hi
 clear hi
 refine ck rfl (by kernel_rfl) ?_
 refine wp_store_row 30 _ _ rfl gr (cpA c) rfl rfl 30 _ pr.drew (bk c) (bj c).symm (bw c) ?_
 refine ⟨⟨pc1.drew,pf1.drew⟩,?_⟩
 show wpAnyH _ _ _ _ _ _ _ _ _
 refine wpAnyH_all (rs:=[6]) (by kernel_rfl) (by simp) ?_
 intro i hi
 obtain rfl:i=6:=by simpa using hi
 clear hi
 refine ck rfl (by kernel_rfl) ?_
 refine wp_store_row 52 _ _ rfl gt #[U κ 2,U κ 0,U κ A,U κ F.k,U κ F.s,U κ F.l,β F.wk,U κ F.p] rfl rfl 52 _ pt1.drew bn rfl (by simp[Value.oneCell']) ?_
 refine ⟨⟨pc3.drew,pf3.drew⟩,?_⟩
 show wpAnyH _ _ _ _ _ _ _ _ _
 refine wpAnyH_done (by kernel_rfl) ?_ _
 go_wp2_with fail
 refine bodyPost_ret (d8 rfl rfl rfl qr.drew (bj _) qt.drew rfl) rfl ?_
 exact ⟨rfl,HE.out.1.drew,HE.out.2.drew⟩
theorem dtch_flt8 (w:World) (D:Bd) (nf:Nat) (M:Mc) (c:Cp) (hok:c.Ok) (vm sd fi se ix:Int) (a b d i:Nat) (_ha:a<16) (hb:b<16) (hi:i<65536) (_hp:0≤c.pc∧c.pc≤65535) (h:IsMd w D nf M) (A:Int) (hAd:A=(((c.r b+i)%65536:Nat):Int)) {n:Nat} (hm:M.few n) (hn:n<999990) (hq:A%4=0) (hk:(rcF M nf vm sd fi se A 2).k≠0) :
  Calls pQ 35 #[D.a,.agg (cpA c),.agg #[U κ 8,U κ (a:Int),U κ (b:Int),U κ (d:Int),U κ (i:Int)],.agg #[U κ vm,U κ sd,U κ fi,U κ se],U κ ix] w fun e w'=>e=ρ (τ #[.agg (cpA c),.agg (trL ⟨3,0,A,rcF M nf vm sd fi se A 2⟩)])∧Fr D.s w w'∧IsMd w' D nf (rcM M nf vm sd fi se A 2 ix):=by
 have hA0:0≤A∧A≤65535:=by omega
 have HR:=fun w1 (h1:IsMd w1 D nf M)=>gv w1 D nf M vm sd fi se A 2 ix h1 hm hn hA0
 obtain ⟨M',hM'⟩:∃ M',rcM M nf vm sd fi se A 2 ix=M':=⟨_,rfl⟩
 obtain ⟨F,hF⟩:∃ F,rcF M nf vm sd fi se A 2=F:=⟨_,rfl⟩
 obtain ⟨P,hP⟩:∃ P,rcP M nf vm sd fi se A 2=P:=⟨_,rfl⟩
 rw[hM',hF,hP] at HR
 simp only[hM',hF] at hk ⊢
 clear hM' hF hP hm
 unfold Bd.a at HR ⊢
 have HL:Hid (∀ k,D.y k→k<w.heap.size):=h.lt
 obtain ⟨v0,gm,gc,gi,gs,gr,gt,hv0,hgm,hgc,hgi,hgs,hgr,hgt,HG,pm,pc,pi,ps,pr,pt,f0⟩:=co w D c 8 a b d i vm sd fi se
 go_enter Tryz.func35,Tryz.ntmps35
 go_upto_region 1 with fail
 rw[←hv0,←hgt,←hgr,←hgs,←hgi,←hgc,←hgm]
 clear hv0 hgm hgc hgi hgs hgr hgt
 have yb:v0.cell? ⟨gc,b,none⟩=some (U μ ((c.r b:Nat):Int)):=pc.rg hb
 obtain ⟨x0,x1,x2,x3,x4⟩:=bl pi
 have ib:0≤(b:Int)∧(b:Int)<16:=by omega
 have rb:=hok.r b
 have e1:=m5 i (by omega)
 have e2:IntKind.u32.wrap (((c.r b:Nat):Int)+(i:Int))=(((c.r b+i)%4294967296:Nat):Int):=by rw[IntKind.wrap_u32];omega
 obtain ⟨s,hs⟩:∃ s:Nat,(c.r b+i)%4294967296=s:=⟨_,rfl⟩
 have hsl:s<4294967296:=by omega
 have hA:A=((s%65536:Nat):Int):=by rw[hAd];omega
 rw[hs] at e2
 have e3:((s:Int)%65536)=A:=by omega
 have e7:(((c.r b:Nat):Int)+(i:Int))%4294967296=(s:Int):=by omega
 have hAr:0≤A∧A≤65535:=by omega
 clear hs hA
 have e5:A.tmod 4=0:=by rw[Int.tmod_eq_emod_of_nonneg hAr.1];exact hq
 clear hAd hq
 go_wp2_with fail
 go_quiet (fail)
 go_upto_region 13 with fail
 have fd:Fr bg v0 (v0.drewN nq):=bo v0 nq
 replace pm:=pm.keep fd (fun h=>h)
 replace pc:=pc.keep fd (fun h=>h)
 replace pi:=pi.keep fd (fun h=>h)
 replace ps:=ps.keep fd (fun h=>h)
 replace pr:=pr.keep fd (fun h=>h)
 replace pt:=pt.keep fd (fun h=>h)
 have h1:=h.keep0 (f0.trans fd)
 have f1:Fr D.s w (v0.drewN nq):=(di f0).trans (di fd)
 clear fd f0
 obtain ⟨v1,hv1⟩:∃ v1,v1=v0.drewN nq:=⟨_,rfl⟩
 rw[←hv1] at pm pc pi ps pr pt h1 f1 ⊢
 clear hv1
 obtain ⟨m0,m1,m2⟩:v1.cell? ⟨gm,0,none⟩=some (π (some ⟨D.p,0,none⟩))∧v1.cell? ⟨gm,1,none⟩=some (π (some ⟨D.t,0,none⟩))∧v1.cell? ⟨gm,2,none⟩=some (gu D.v):=⟨pm.cell 0,pm.cell 1,pm.cell 2⟩
 obtain ⟨s0,s1,s2,s3⟩:v1.cell? ⟨gs,0,none⟩=some (U κ vm)∧v1.cell? ⟨gs,1,none⟩=some (U κ sd)∧v1.cell? ⟨gs,2,none⟩=some (U κ fi)∧v1.cell? ⟨gs,3,none⟩=some (U κ se):=⟨ps.cell 0,ps.cell 1,ps.cell 2,ps.cell 3⟩
 go_wp2_with fail
 refine(HR v1 h1).mono ?_
 rintro e v2 ⟨rfl,f2,h2⟩
 clear HR h1 m0 m1 m2 s0 s1 s2 s3 x0 x1 x2 x3 x4 yb ps
 have ng:∀ g,w.heap.size≤g→¬ D.s g:=fun g hg e=>absurd (HL.out _ (Or.inl e)) (by omega)
 replace pm:=pm.keep f2 (ng _ (by have:=HG.out;omega))
 replace pc:=pc.keep f2 (ng _ (by have:=HG.out;omega))
 replace pi:=pi.keep f2 (ng _ (by have:=HG.out;omega))
 replace pr:=pr.keep f2 (ng _ (by have:=HG.out;omega))
 replace pt:=pt.keep f2 (ng _ (by have:=HG.out;omega))
 replace f2:=f1.trans f2
 clear f1 ng
 have HS2:gr<v2.heap.size∧gt<v2.heap.size∧gc<v2.heap.size:=⟨pr.lt,pt.lt,pc.lt⟩
 have t2:(F.k != 0)=true:=by simp[hk]
 go_upto_region 15 with fail
 have pf:=ba v2 #[U κ F.k,U κ F.s,U κ F.l,β F.wk,U κ F.p] 50
 replace pc:=pc.alloc (ω #[U κ F.k,U κ F.s,U κ F.l,β F.wk,U κ F.p] 50)
 replace pr:=pr.alloc (ω #[U κ F.k,U κ F.s,U κ F.l,β F.wk,U κ F.p] 50)
 replace pt:=pt.alloc (ω #[U κ F.k,U κ F.s,U κ F.l,β F.wk,U κ F.p] 50)
 have h3:=h2.alloc (ω #[U κ F.k,U κ F.s,U κ F.l,β F.wk,U κ F.p] 50)
 have f3:=f2.alloc (ω #[U κ F.k,U κ F.s,U κ F.l,β F.wk,U κ F.p] 50)
 have H2:Hid (gr<v2.heap.size∧gt<v2.heap.size∧gc<v2.heap.size∧w.heap.size≤v2.heap.size):=(show _∧_ from ⟨HS2.1,HS2.2.1,HS2.2.2,f2.size⟩)
 clear pm pi h2 f2 HS2
 obtain ⟨v3,hv3⟩:∃ v3,v3=v2.alloc (ω #[U κ F.k,U κ F.s,U κ F.l,β F.wk,U κ F.p] 50):=⟨_,rfl⟩
 rw[←hv3] at pf pc pr pt h3 f3 ⊢
 clear hv3
 obtain ⟨gf,hgf⟩:∃ g,g=v2.heap.size:=⟨_,rfl⟩
 rw[←hgf] at pf H2 ⊢
 clear hgf
 have nrt:¬ at' gr gt:=fun e=>by have e':gt=gr:=e;have:=HG.out;omega
 have ntr:¬ at' gt gr:=fun e=>by have e':gr=gt:=e;have:=HG.out;omega
 have pt1:=pt.keep (bb v3 gr (cpA (c))) nrt
 have qt:=pt1.setRow (A:=#[U κ 3,U κ 0,U κ A,U κ F.k,U κ F.s,U κ F.l,β F.wk,U κ F.p])
 have qr:=(pr.setRow (A:=cpA (c))).keep (bb _ gt #[U κ 3,U κ 0,U κ A,U κ F.k,U κ F.s,U κ F.l,β F.wk,U κ F.p]) ntr
 have HE:Hid (Fr D.s w ((v3.setRow gr (cpA (c))).setRow gt #[U κ 3,U κ 0,U κ A,U κ F.k,U κ F.s,U κ F.l,β F.wk,U κ F.p])∧IsMd ((v3.setRow gr (cpA (c))).setRow gt #[U κ 3,U κ 0,U κ A,U κ F.k,U κ F.s,U κ F.l,β F.wk,U κ F.p]) D nf _):=⟨bp (bp f3 (g:=gr) (by have:=HG.out;omega) _) (g:=gt) (by have:=HG.out;omega) _,(h3.past (bb _ gr _) (fun k hk=>by have:=HL.out k hk;have:=HG.out;omega)).past (bb _ gt _) (fun k hk=>by have:=HL.out k hk;have:=HG.out;omega)⟩
 have pc1:=(pc.keep (bb v3 gr (cpA c)) (fun e=>by have e':gc=gr:=e;have:=HG.out;omega))
 have pf1:=(pf.keep (bb v3 gr (cpA c)) (fun e=>by have e':gf=gr:=e;have:=H2.out;omega))
 have pc3:=pc1.keep (bb _ gt #[U κ 3,U κ 0,U κ A,U κ F.k,U κ F.s,U κ F.l,β F.wk,U κ F.p]) (fun e=>by have e':gc=gt:=e;have:=HG.out;omega)
 have pf3:=pf1.keep (bb _ gt #[U κ 3,U κ 0,U κ A,U κ F.k,U κ F.s,U κ F.l,β F.wk,U κ F.p]) (fun e=>by have e':gf=gt:=e;have:=H2.out;omega)
 refine wp_region_held (S:=fun w'=>Row w' gc (cpA c) 30∧Row w' gf #[U κ F.k,U κ F.s,U κ F.l,β F.wk,U κ F.p] 50) (by kernel_rfl) ?_
 change wpAnyH _ _ _ _ _ _ _ _ (World.drew _)
 refine wpAnyH_take (i:=0) (v:=.agg (cpL c).toArray) rfl (by kernel_rfl) (by kernel_rfl) (by kernel_rfl) (fun _ _ _ h=>h) (yieldsIf_load_mid (by kernel_rfl) 30 _ rfl gc 0 rfl (cpL c) _ (fun _ h=>dc h.1) Tryz.underlying30 rfl (dw c)) ⟨pc.drew,pf.drew⟩ ?_
 show wpAnyH _ _ _ _ _ _ _ (Act.put _ (some 68) _) _
 simp only[Act.put,sA,sB,sC]
 refine tkQ 1 (v:=?_) rfl (by kernel_rfl) (fun _ _ _ h=>h) (fun w hS=>?_) ⟨pc.drew,pf.drew⟩ ?_
 rotate_left
 ·go_simp
  try with_reducible rfl
 show wpAnyH _ _ _ _ _ _ _ (Act.put _ (some 69) _) _
 simp only[Act.put,sA,sB,sC]
 refine tkQ 2 (v:=?_) rfl (by kernel_rfl) (fun _ _ _ h=>h) (fun w hS=>?_) ⟨pc.drew,pf.drew⟩ ?_
 rotate_left
 ·go_simp
  try with_reducible rfl
 show wpAnyH _ _ _ _ _ _ _ (Act.put _ (some 70) _) _
 simp only[Act.put,sA,sB,sC]
 refine tkQ 3 (v:=?_) rfl (by kernel_rfl) (fun _ _ _ h=>h) (fun w hS=>?_) ⟨pc.drew,pf.drew⟩ ?_
 rotate_left
 ·obtain ⟨y0,y1,y2,y3,y4⟩:=bl hS.2;go_simp
  try with_reducible rfl
 show wpAnyH _ _ _ _ _ _ _ (Act.put _ (some 71) _) _
 simp only[Act.put,sA,sB,sC]
 refine tkQ 4 (v:=?_) rfl (by kernel_rfl) (fun _ _ _ h=>h) (fun w hS=>?_) ⟨pc.drew,pf.drew⟩ ?_
 rotate_left
 ·go_simp
  try with_reducible rfl
 show wpAnyH _ _ _ _ _ _ _ (Act.put _ (some 72) _) _
 simp only[Act.put,sA,sB,sC]
 refine wpAnyH_all (rs:=[5]) (by kernel_rfl) (by simp) ?_
 intro i hi
 obtain rfl:i=5:=by simpa using hi
 clear hi
 refine ck rfl (by kernel_rfl) ?_
 refine wp_store_row 30 _ _ rfl gr (cpA c) rfl rfl 30 _ pr.drew (bk c) (bj c).symm (bw c) ?_
 refine ⟨⟨pc1.drew,pf1.drew⟩,?_⟩
 show wpAnyH _ _ _ _ _ _ _ _ _
 refine wpAnyH_all (rs:=[6]) (by kernel_rfl) (by simp) ?_
 intro i hi
 obtain rfl:i=6:=by simpa using hi
 clear hi
 refine ck rfl (by kernel_rfl) ?_
 refine wp_store_row 52 _ _ rfl gt #[U κ 3,U κ 0,U κ A,U κ F.k,U κ F.s,U κ F.l,β F.wk,U κ F.p] rfl rfl 52 _ pt1.drew bn rfl (by simp[Value.oneCell']) ?_
 refine ⟨⟨pc3.drew,pf3.drew⟩,?_⟩
 show wpAnyH _ _ _ _ _ _ _ _ _
 refine wpAnyH_done (by kernel_rfl) ?_ _
 go_wp2_with fail
 refine bodyPost_ret (d8 rfl rfl rfl qr.drew (bj _) qt.drew rfl) rfl ?_
 exact ⟨rfl,HE.out.1.drew,HE.out.2.drew⟩
theorem dtch_flt10 (w:World) (D:Bd) (nf:Nat) (M:Mc) (c:Cp) (hok:c.Ok) (vm sd fi se ix:Int) (a b d i:Nat) (_ha:a<16) (hb:b<16) (hi:i<65536) (_hp:0≤c.pc∧c.pc≤65535) (h:IsMd w D nf M) (A:Int) (hAd:A=(((c.r b+i)%65536:Nat):Int)) {n:Nat} (hm:M.few n) (hn:n<999990) (hq:A%1=0) (hk:(rcF M nf vm sd fi se A 2).k≠0) :
  Calls pQ 35 #[D.a,.agg (cpA c),.agg #[U κ 10,U κ (a:Int),U κ (b:Int),U κ (d:Int),U κ (i:Int)],.agg #[U κ vm,U κ sd,U κ fi,U κ se],U κ ix] w fun e w'=>e=ρ (τ #[.agg (cpA c),.agg (trL ⟨3,0,A,rcF M nf vm sd fi se A 2⟩)])∧Fr D.s w w'∧IsMd w' D nf (rcM M nf vm sd fi se A 2 ix):=by
 have hA0:0≤A∧A≤65535:=by omega
 have HR:=fun w1 (h1:IsMd w1 D nf M)=>gv w1 D nf M vm sd fi se A 2 ix h1 hm hn hA0
 obtain ⟨M',hM'⟩:∃ M',rcM M nf vm sd fi se A 2 ix=M':=⟨_,rfl⟩
 obtain ⟨F,hF⟩:∃ F,rcF M nf vm sd fi se A 2=F:=⟨_,rfl⟩
 obtain ⟨P,hP⟩:∃ P,rcP M nf vm sd fi se A 2=P:=⟨_,rfl⟩
 rw[hM',hF,hP] at HR
 simp only[hM',hF] at hk ⊢
 clear hM' hF hP hm
 unfold Bd.a at HR ⊢
 have HL:Hid (∀ k,D.y k→k<w.heap.size):=h.lt
 obtain ⟨v0,gm,gc,gi,gs,gr,gt,hv0,hgm,hgc,hgi,hgs,hgr,hgt,HG,pm,pc,pi,ps,pr,pt,f0⟩:=co w D c 10 a b d i vm sd fi se
 go_enter Tryz.func35,Tryz.ntmps35
 go_upto_region 1 with fail
 rw[←hv0,←hgt,←hgr,←hgs,←hgi,←hgc,←hgm]
 clear hv0 hgm hgc hgi hgs hgr hgt
 have yb:v0.cell? ⟨gc,b,none⟩=some (U μ ((c.r b:Nat):Int)):=pc.rg hb
 obtain ⟨x0,x1,x2,x3,x4⟩:=bl pi
 have ib:0≤(b:Int)∧(b:Int)<16:=by omega
 have rb:=hok.r b
 have e1:=m5 i (by omega)
 have e2:IntKind.u32.wrap (((c.r b:Nat):Int)+(i:Int))=(((c.r b+i)%4294967296:Nat):Int):=by rw[IntKind.wrap_u32];omega
 obtain ⟨s,hs⟩:∃ s:Nat,(c.r b+i)%4294967296=s:=⟨_,rfl⟩
 have hsl:s<4294967296:=by omega
 have hA:A=((s%65536:Nat):Int):=by rw[hAd];omega
 rw[hs] at e2
 have e3:((s:Int)%65536)=A:=by omega
 have e7:(((c.r b:Nat):Int)+(i:Int))%4294967296=(s:Int):=by omega
 have hAr:0≤A∧A≤65535:=by omega
 clear hs hA
 have e5:A.tmod 1=0:=Int.tmod_one A
 clear hAd hq
 go_wp2_with fail
 go_quiet (fail)
 go_upto_region 13 with fail
 have fd:Fr bg v0 (v0.drewN nq):=bo v0 nq
 replace pm:=pm.keep fd (fun h=>h)
 replace pc:=pc.keep fd (fun h=>h)
 replace pi:=pi.keep fd (fun h=>h)
 replace ps:=ps.keep fd (fun h=>h)
 replace pr:=pr.keep fd (fun h=>h)
 replace pt:=pt.keep fd (fun h=>h)
 have h1:=h.keep0 (f0.trans fd)
 have f1:Fr D.s w (v0.drewN nq):=(di f0).trans (di fd)
 clear fd f0
 obtain ⟨v1,hv1⟩:∃ v1,v1=v0.drewN nq:=⟨_,rfl⟩
 rw[←hv1] at pm pc pi ps pr pt h1 f1 ⊢
 clear hv1
 obtain ⟨m0,m1,m2⟩:v1.cell? ⟨gm,0,none⟩=some (π (some ⟨D.p,0,none⟩))∧v1.cell? ⟨gm,1,none⟩=some (π (some ⟨D.t,0,none⟩))∧v1.cell? ⟨gm,2,none⟩=some (gu D.v):=⟨pm.cell 0,pm.cell 1,pm.cell 2⟩
 obtain ⟨s0,s1,s2,s3⟩:v1.cell? ⟨gs,0,none⟩=some (U κ vm)∧v1.cell? ⟨gs,1,none⟩=some (U κ sd)∧v1.cell? ⟨gs,2,none⟩=some (U κ fi)∧v1.cell? ⟨gs,3,none⟩=some (U κ se):=⟨ps.cell 0,ps.cell 1,ps.cell 2,ps.cell 3⟩
 go_wp2_with fail
 refine(HR v1 h1).mono ?_
 rintro e v2 ⟨rfl,f2,h2⟩
 clear HR h1 m0 m1 m2 s0 s1 s2 s3 x0 x1 x2 x3 x4 yb ps
 have ng:∀ g,w.heap.size≤g→¬ D.s g:=fun g hg e=>absurd (HL.out _ (Or.inl e)) (by omega)
 replace pm:=pm.keep f2 (ng _ (by have:=HG.out;omega))
 replace pc:=pc.keep f2 (ng _ (by have:=HG.out;omega))
 replace pi:=pi.keep f2 (ng _ (by have:=HG.out;omega))
 replace pr:=pr.keep f2 (ng _ (by have:=HG.out;omega))
 replace pt:=pt.keep f2 (ng _ (by have:=HG.out;omega))
 replace f2:=f1.trans f2
 clear f1 ng
 have HS2:gr<v2.heap.size∧gt<v2.heap.size∧gc<v2.heap.size:=⟨pr.lt,pt.lt,pc.lt⟩
 have t2:(F.k != 0)=true:=by simp[hk]
 go_upto_region 15 with fail
 have pf:=ba v2 #[U κ F.k,U κ F.s,U κ F.l,β F.wk,U κ F.p] 50
 replace pc:=pc.alloc (ω #[U κ F.k,U κ F.s,U κ F.l,β F.wk,U κ F.p] 50)
 replace pr:=pr.alloc (ω #[U κ F.k,U κ F.s,U κ F.l,β F.wk,U κ F.p] 50)
 replace pt:=pt.alloc (ω #[U κ F.k,U κ F.s,U κ F.l,β F.wk,U κ F.p] 50)
 have h3:=h2.alloc (ω #[U κ F.k,U κ F.s,U κ F.l,β F.wk,U κ F.p] 50)
 have f3:=f2.alloc (ω #[U κ F.k,U κ F.s,U κ F.l,β F.wk,U κ F.p] 50)
 have H2:Hid (gr<v2.heap.size∧gt<v2.heap.size∧gc<v2.heap.size∧w.heap.size≤v2.heap.size):=(show _∧_ from ⟨HS2.1,HS2.2.1,HS2.2.2,f2.size⟩)
 clear pm pi h2 f2 HS2
 obtain ⟨v3,hv3⟩:∃ v3,v3=v2.alloc (ω #[U κ F.k,U κ F.s,U κ F.l,β F.wk,U κ F.p] 50):=⟨_,rfl⟩
 rw[←hv3] at pf pc pr pt h3 f3 ⊢
 clear hv3
 obtain ⟨gf,hgf⟩:∃ g,g=v2.heap.size:=⟨_,rfl⟩
 rw[←hgf] at pf H2 ⊢
 clear hgf
 have nrt:¬ at' gr gt:=fun e=>by have e':gt=gr:=e;have:=HG.out;omega
 have ntr:¬ at' gt gr:=fun e=>by have e':gr=gt:=e;have:=HG.out;omega
 have pt1:=pt.keep (bb v3 gr (cpA (c))) nrt
 have qt:=pt1.setRow (A:=#[U κ 3,U κ 0,U κ A,U κ F.k,U κ F.s,U κ F.l,β F.wk,U κ F.p])
 have qr:=(pr.setRow (A:=cpA (c))).keep (bb _ gt #[U κ 3,U κ 0,U κ A,U κ F.k,U κ F.s,U κ F.l,β F.wk,U κ F.p]) ntr
 have HE:Hid (Fr D.s w ((v3.setRow gr (cpA (c))).setRow gt #[U κ 3,U κ 0,U κ A,U κ F.k,U κ F.s,U κ F.l,β F.wk,U κ F.p])∧IsMd ((v3.setRow gr (cpA (c))).setRow gt #[U κ 3,U κ 0,U κ A,U κ F.k,U κ F.s,U κ F.l,β F.wk,U κ F.p]) D nf _):=⟨bp (bp f3 (g:=gr) (by have:=HG.out;omega) _) (g:=gt) (by have:=HG.out;omega) _,(h3.past (bb _ gr _) (fun k hk=>by have:=HL.out k hk;have:=HG.out;omega)).past (bb _ gt _) (fun k hk=>by have:=HL.out k hk;have:=HG.out;omega)⟩
 have pc1:=(pc.keep (bb v3 gr (cpA c)) (fun e=>by have e':gc=gr:=e;have:=HG.out;omega))
 have pf1:=(pf.keep (bb v3 gr (cpA c)) (fun e=>by have e':gf=gr:=e;have:=H2.out;omega))
 have pc3:=pc1.keep (bb _ gt #[U κ 3,U κ 0,U κ A,U κ F.k,U κ F.s,U κ F.l,β F.wk,U κ F.p]) (fun e=>by have e':gc=gt:=e;have:=HG.out;omega)
 have pf3:=pf1.keep (bb _ gt #[U κ 3,U κ 0,U κ A,U κ F.k,U κ F.s,U κ F.l,β F.wk,U κ F.p]) (fun e=>by have e':gf=gt:=e;have:=H2.out;omega)
 refine wp_region_held (S:=fun w'=>Row w' gc (cpA c) 30∧Row w' gf #[U κ F.k,U κ F.s,U κ F.l,β F.wk,U κ F.p] 50) (by kernel_rfl) ?_
 change wpAnyH _ _ _ _ _ _ _ _ (World.drew _)
 refine wpAnyH_take (i:=0) (v:=.agg (cpL c).toArray) rfl (by kernel_rfl) (by kernel_rfl) (by kernel_rfl) (fun _ _ _ h=>h) (yieldsIf_load_mid (by kernel_rfl) 30 _ rfl gc 0 rfl (cpL c) _ (fun _ h=>dc h.1) Tryz.underlying30 rfl (dw c)) ⟨pc.drew,pf.drew⟩ ?_
 show wpAnyH _ _ _ _ _ _ _ (Act.put _ (some 68) _) _
 simp only[Act.put,sA,sB,sC]
 refine tkQ 1 (v:=?_) rfl (by kernel_rfl) (fun _ _ _ h=>h) (fun w hS=>?_) ⟨pc.drew,pf.drew⟩ ?_
 rotate_left
 ·go_simp
  try with_reducible rfl
 show wpAnyH _ _ _ _ _ _ _ (Act.put _ (some 69) _) _
 simp only[Act.put,sA,sB,sC]
 refine tkQ 2 (v:=?_) rfl (by kernel_rfl) (fun _ _ _ h=>h) (fun w hS=>?_) ⟨pc.drew,pf.drew⟩ ?_
 rotate_left
 ·go_simp
  try with_reducible rfl
 show wpAnyH _ _ _ _ _ _ _ (Act.put _ (some 70) _) _
 simp only[Act.put,sA,sB,sC]
 refine tkQ 3 (v:=?_) rfl (by kernel_rfl) (fun _ _ _ h=>h) (fun w hS=>?_) ⟨pc.drew,pf.drew⟩ ?_
 rotate_left
 ·obtain ⟨y0,y1,y2,y3,y4⟩:=bl hS.2;go_simp
  try with_reducible rfl
 show wpAnyH _ _ _ _ _ _ _ (Act.put _ (some 71) _) _
 simp only[Act.put,sA,sB,sC]
 refine tkQ 4 (v:=?_) rfl (by kernel_rfl) (fun _ _ _ h=>h) (fun w hS=>?_) ⟨pc.drew,pf.drew⟩ ?_
 rotate_left
 ·go_simp
  try with_reducible rfl
 show wpAnyH _ _ _ _ _ _ _ (Act.put _ (some 72) _) _
 simp only[Act.put,sA,sB,sC]
 refine wpAnyH_all (rs:=[5]) (by kernel_rfl) (by simp) ?_
 intro i hi
 obtain rfl:i=5:=by simpa using hi
 clear hi
 refine ck rfl (by kernel_rfl) ?_
 refine wp_store_row 30 _ _ rfl gr (cpA c) rfl rfl 30 _ pr.drew (bk c) (bj c).symm (bw c) ?_
 refine ⟨⟨pc1.drew,pf1.drew⟩,?_⟩
 show wpAnyH _ _ _ _ _ _ _ _ _
 refine wpAnyH_all (rs:=[6]) (by kernel_rfl) (by simp) ?_
 intro i hi
 obtain rfl:i=6:=by simpa using hi
 clear hi
 refine ck rfl (by kernel_rfl) ?_
 refine wp_store_row 52 _ _ rfl gt #[U κ 3,U κ 0,U κ A,U κ F.k,U κ F.s,U κ F.l,β F.wk,U κ F.p] rfl rfl 52 _ pt1.drew bn rfl (by simp[Value.oneCell']) ?_
 refine ⟨⟨pc3.drew,pf3.drew⟩,?_⟩
 show wpAnyH _ _ _ _ _ _ _ _ _
 refine wpAnyH_done (by kernel_rfl) ?_ _
 go_wp2_with fail
 refine bodyPost_ret (d8 rfl rfl rfl qr.drew (bj _) qt.drew rfl) rfl ?_
 exact ⟨rfl,HE.out.1.drew,HE.out.2.drew⟩
theorem dtch_st8 (w:World) (D:Bd) (nf:Nat) (M:Mc) (c:Cp) (hok:c.Ok) (vm sd fi se ix:Int) (a b d i:Nat) (ha:a<16) (hb:b<16) (hi:i<65536) (hp:0≤c.pc∧c.pc≤65535) (h:IsMd w D nf M) (A:Int) (hAd:A=(((c.r b+i)%65536:Nat):Int)) {n:Nat} (hm:M.few n) (hn:n<999990) (hq:A%4=0) (hk:(rcF M nf vm sd fi se A 2).k=0) :
  Calls pQ 35 #[D.a,.agg (cpA c),.agg #[U κ 8,U κ (a:Int),U κ (b:Int),U κ (d:Int),U κ (i:Int)],.agg #[U κ vm,U κ sd,U κ fi,U κ se],U κ ix] w fun e w'=>e=ρ (τ #[.agg (cpA (c.setP ((c.pc+4)%65536))),.agg (trL t0)])∧Fr D.s w w'∧IsMd w' D nf { rcM M nf vm sd fi se A 2 ix with bs:=kj M.bs (rcP M nf vm sd fi se A 2) 4 nf (c.r a) }:=by
 have hA0:0≤A∧A≤65535:=by omega
 have HR:=fun w1 (h1:IsMd w1 D nf M)=>gv w1 D nf M vm sd fi se A 2 ix h1 hm hn hA0
 have hbs:(rcM M nf vm sd fi se A 2 ix).bs=M.bs:=rfl
 obtain ⟨M',hM'⟩:∃ M',rcM M nf vm sd fi se A 2 ix=M':=⟨_,rfl⟩
 obtain ⟨F,hF⟩:∃ F,rcF M nf vm sd fi se A 2=F:=⟨_,rfl⟩
 obtain ⟨P,hP⟩:∃ P,rcP M nf vm sd fi se A 2=P:=⟨_,rfl⟩
 rw[hM',hF,hP] at HR
 have HSt:∀ w1,IsMd w1 D nf M'→Calls pQ 24 #[π (some ⟨D.p,0,none⟩),U κ P,U κ 4,U μ ((c.r a:Nat):Int)] w1 fun e w'=>e=ρ (U κ (dk P 4 nf))∧Fr (at' D.f) w1 w'∧IsMd w' D nf { M' with bs:=kj M.bs P 4 nf (c.r a) }:=fun w1 h1=>by
  have h2:=h1.r
  rw[←hM',hbs] at h2
  exact(qk w1 D.p D.f nf M.bs P 4 (c.r a) h2 (hok.r a)).mono fun e w' ⟨he,f,q⟩=>⟨he,f,h1.mem f q⟩
 simp only[hM',hF,hP] at hk ⊢
 obtain ⟨M2,hM2⟩:∃ M2,({ M' with bs:=kj M.bs P 4 nf (c.r a) }:Mc)=M2:=⟨_,rfl⟩
 rw[hM2] at HSt ⊢
 clear hM2 hbs
 clear hM' hF hP hm
 unfold Bd.a at HR ⊢
 have HL:Hid (∀ k,D.y k→k<w.heap.size):=h.lt
 obtain ⟨v0,gm,gc,gi,gs,gr,gt,hv0,hgm,hgc,hgi,hgs,hgr,hgt,HG,pm,pc,pi,ps,pr,pt,f0⟩:=co w D c 8 a b d i vm sd fi se
 go_enter Tryz.func35,Tryz.ntmps35
 go_upto_region 1 with fail
 rw[←hv0,←hgt,←hgr,←hgs,←hgi,←hgc,←hgm]
 clear hv0 hgm hgc hgi hgs hgr hgt
 have yb:v0.cell? ⟨gc,b,none⟩=some (U μ ((c.r b:Nat):Int)):=pc.rg hb
 obtain ⟨x0,x1,x2,x3,x4⟩:=bl pi
 have ib:0≤(b:Int)∧(b:Int)<16:=by omega
 have rb:=hok.r b
 have e1:=m5 i (by omega)
 have e2:IntKind.u32.wrap (((c.r b:Nat):Int)+(i:Int))=(((c.r b+i)%4294967296:Nat):Int):=by rw[IntKind.wrap_u32];omega
 obtain ⟨s,hs⟩:∃ s:Nat,(c.r b+i)%4294967296=s:=⟨_,rfl⟩
 have hsl:s<4294967296:=by omega
 have hA:A=((s%65536:Nat):Int):=by rw[hAd];omega
 rw[hs] at e2
 have e3:((s:Int)%65536)=A:=by omega
 have e7:(((c.r b:Nat):Int)+(i:Int))%4294967296=(s:Int):=by omega
 have hAr:0≤A∧A≤65535:=by omega
 clear hs hA
 have e5:A.tmod 4=0:=by rw[Int.tmod_eq_emod_of_nonneg hAr.1];exact hq
 clear hAd hq
 go_wp2_with fail
 go_quiet (fail)
 go_upto_region 13 with fail
 have fd:Fr bg v0 (v0.drewN nq):=bo v0 nq
 replace pm:=pm.keep fd (fun h=>h)
 replace pc:=pc.keep fd (fun h=>h)
 replace pi:=pi.keep fd (fun h=>h)
 replace ps:=ps.keep fd (fun h=>h)
 replace pr:=pr.keep fd (fun h=>h)
 replace pt:=pt.keep fd (fun h=>h)
 have h1:=h.keep0 (f0.trans fd)
 have f1:Fr D.s w (v0.drewN nq):=(di f0).trans (di fd)
 clear fd f0
 obtain ⟨v1,hv1⟩:∃ v1,v1=v0.drewN nq:=⟨_,rfl⟩
 rw[←hv1] at pm pc pi ps pr pt h1 f1 ⊢
 clear hv1
 obtain ⟨m0,m1,m2⟩:v1.cell? ⟨gm,0,none⟩=some (π (some ⟨D.p,0,none⟩))∧v1.cell? ⟨gm,1,none⟩=some (π (some ⟨D.t,0,none⟩))∧v1.cell? ⟨gm,2,none⟩=some (gu D.v):=⟨pm.cell 0,pm.cell 1,pm.cell 2⟩
 obtain ⟨s0,s1,s2,s3⟩:v1.cell? ⟨gs,0,none⟩=some (U κ vm)∧v1.cell? ⟨gs,1,none⟩=some (U κ sd)∧v1.cell? ⟨gs,2,none⟩=some (U κ fi)∧v1.cell? ⟨gs,3,none⟩=some (U κ se):=⟨ps.cell 0,ps.cell 1,ps.cell 2,ps.cell 3⟩
 go_wp2_with fail
 refine(HR v1 h1).mono ?_
 rintro e v2 ⟨rfl,f2,h2⟩
 clear HR h1 m0 m1 m2 s0 s1 s2 s3 x0 x1 x2 x3 x4 yb ps
 have ng:∀ g,w.heap.size≤g→¬ D.s g:=fun g hg e=>absurd (HL.out _ (Or.inl e)) (by omega)
 replace pm:=pm.keep f2 (ng _ (by have:=HG.out;omega))
 replace pc:=pc.keep f2 (ng _ (by have:=HG.out;omega))
 replace pi:=pi.keep f2 (ng _ (by have:=HG.out;omega))
 replace pr:=pr.keep f2 (ng _ (by have:=HG.out;omega))
 replace pt:=pt.keep f2 (ng _ (by have:=HG.out;omega))
 replace f2:=f1.trans f2
 clear f1 ng
 have HS2:gr<v2.heap.size∧gt<v2.heap.size∧gc<v2.heap.size∧gi<v2.heap.size∧gm<v2.heap.size:=⟨pr.lt,pt.lt,pc.lt,pi.lt,pm.lt⟩
 have t2:(F.k != 0)=false:=by simp[hk]
 have pm':=pm.alloc (ω #[U κ 0,U κ F.s,U κ F.l,β F.wk,U κ F.p] 50)
 have pc':=pc.alloc (ω #[U κ 0,U κ F.s,U κ F.l,β F.wk,U κ F.p] 50)
 have pi':=pi.alloc (ω #[U κ 0,U κ F.s,U κ F.l,β F.wk,U κ F.p] 50)
 have pr':=pr.alloc (ω #[U κ 0,U κ F.s,U κ F.l,β F.wk,U κ F.p] 50)
 have pt':=pt.alloc (ω #[U κ 0,U κ F.s,U κ F.l,β F.wk,U κ F.p] 50)
 have h3:=h2.alloc (ω #[U κ 0,U κ F.s,U κ F.l,β F.wk,U κ F.p] 50)
 have f3:=f2.alloc (ω #[U κ 0,U κ F.s,U κ F.l,β F.wk,U κ F.p] 50)
 go_upto_region 16 with fail
 clear HS2 h2 f2 pm pc pi pr pt
 obtain ⟨v3,hv3⟩:∃ v3,v3=v2.alloc (ω #[U κ 0,U κ F.s,U κ F.l,β F.wk,U κ F.p] 50):=⟨_,rfl⟩
 rw[←hv3] at pm' pc' pi' pr' pt' h3 f3 ⊢
 clear hv3
 have pm:=pm'
 clear pm'
 have pc:=pc'
 clear pc'
 have pi:=pi'
 clear pi'
 have pr:=pr'
 clear pr'
 have pt:=pt'
 clear pt'
 have ia:0≤(a:Int)∧(a:Int)<16:=by omega
 have e4:IntKind.i64.wrap (c.pc+4)=c.pc+4:=by rw[IntKind.wrap_i64];omega
 have NN:Hid (gm≠D.f∧gi≠D.f∧gc≠D.f∧gr≠D.f∧gt≠D.f):=(show _∧_ by have:=HL.out D.f (Or.inl (Or.inl rfl));have:=HG.out;omega)
 go_upto_region 19 with fail
 have h3d:=h3.drew
 go_region_held3 (fun w'=>w'.cell? ⟨gm,0,none⟩=some (π (some ⟨D.p,0,none⟩))∧w'.cell? ⟨gi,1,none⟩=some (U κ (a:Int))∧w'.cell? ⟨gc,a,none⟩=some (U μ ((c.r a:Nat):Int))) (first | with_reducible exact ⟨pm.cell 0,pi.cell 1,pc.rg ha⟩ | exact ⟨pm.cell 0,pi.cell 1,pc.rg ha⟩) (first | (go_at_call 24;refine(HSt _ h3d).mono ?_;rintro e v4 ⟨rfl,f4,h4⟩;replace f4:=ks f4;replace pm:=pm.keep f4 (fun e=>NN.out.1 e);replace pi:=pi.keep f4 (fun e=>NN.out.2.1 e);replace pc:=pc.keep f4 (fun e=>NN.out.2.2.1 e)))
 clear h3d h3
 replace pr:=pr.keep f4 (fun e=>NN.out.2.2.2.1 e)
 replace pt:=pt.keep f4 (fun e=>NN.out.2.2.2.2 e)
 replace f4:=f3.trans (frd_f f4)
 have yp:=pc.pc
 go_wp2_with (refine bh rfl 30 _ rfl gc rfl (cpA c) _ (cq pc) Tryz.underlying30 rfl (bk _) ?_)
 refine(cn _ c (c.pc+4) (by omega)).mono ?_
 rintro e v5 ⟨rfl,f5⟩
 have h5:=h4.keep0 f5
 replace pr:=pr.keep f5 (fun h=>h)
 replace pt:=pt.keep f5 (fun h=>h)
 replace f5:=f4.trans (di f5)
 clear yp pc pi pm f4 h4 f3 HSt
 have nrt:¬ at' gr gt:=fun e=>by have e':gt=gr:=e;have:=HG.out;omega
 have ntr:¬ at' gt gr:=fun e=>by have e':gr=gt:=e;have:=HG.out;omega
 have pt1:=pt.keep (bb v5 gr (cpA (c.setP ((c.pc+4)%65536)))) nrt
 have qt:=pt1.setRow (A:=#[U κ 0,U κ 0,U κ 0,U κ 0,U κ 0,U κ 0,β false,U κ 0])
 have qr:=(pr.setRow (A:=cpA (c.setP ((c.pc+4)%65536)))).keep (bb _ gt #[U κ 0,U κ 0,U κ 0,U κ 0,U κ 0,U κ 0,β false,U κ 0]) ntr
 have HE:Hid (Fr D.s w ((v5.setRow gr (cpA (c.setP ((c.pc+4)%65536)))).setRow gt #[U κ 0,U κ 0,U κ 0,U κ 0,U κ 0,U κ 0,β false,U κ 0])∧IsMd ((v5.setRow gr (cpA (c.setP ((c.pc+4)%65536)))).setRow gt #[U κ 0,U κ 0,U κ 0,U κ 0,U κ 0,U κ 0,β false,U κ 0]) D nf _):=⟨bp (bp f5 (g:=gr) (by have:=HG.out;omega) _) (g:=gt) (by have:=HG.out;omega) _,(h5.past (bb _ gr _) (fun k hk=>by have:=HL.out k hk;have:=HG.out;omega)).past (bb _ gt _) (fun k hk=>by have:=HL.out k hk;have:=HG.out;omega)⟩
 go_wp2_with (first | refine wpList_store_row rfl 30 _ _ rfl gr (cpA (c.setP ((c.pc+4)%65536))) rfl rfl 30 _ pr (bk _) (bj _).symm (bw _) ?_ | refine wpList_store_row rfl 52 _ _ rfl gt #[U κ 0,U κ 0,U κ 0,U κ 0,U κ 0,U κ 0,β false,U κ 0] rfl rfl 52 _ pt1 bn rfl (by simp[Value.oneCell']) ?_)
 refine bodyPost_ret (d8 rfl rfl rfl qr (bj _) qt rfl) rfl ?_
 exact ⟨rfl,HE.out⟩
theorem dtch_st10 (w:World) (D:Bd) (nf:Nat) (M:Mc) (c:Cp) (hok:c.Ok) (vm sd fi se ix:Int) (a b d i:Nat) (ha:a<16) (hb:b<16) (hi:i<65536) (hp:0≤c.pc∧c.pc≤65535) (h:IsMd w D nf M) (A:Int) (hAd:A=(((c.r b+i)%65536:Nat):Int)) {n:Nat} (hm:M.few n) (hn:n<999990) (hq:A%1=0) (hk:(rcF M nf vm sd fi se A 2).k=0) :
  Calls pQ 35 #[D.a,.agg (cpA c),.agg #[U κ 10,U κ (a:Int),U κ (b:Int),U κ (d:Int),U κ (i:Int)],.agg #[U κ vm,U κ sd,U κ fi,U κ se],U κ ix] w fun e w'=>e=ρ (τ #[.agg (cpA (c.setP ((c.pc+4)%65536))),.agg (trL t0)])∧Fr D.s w w'∧IsMd w' D nf { rcM M nf vm sd fi se A 2 ix with bs:=kj M.bs (rcP M nf vm sd fi se A 2) 1 nf (c.r a) }:=by
 have hA0:0≤A∧A≤65535:=by omega
 have HR:=fun w1 (h1:IsMd w1 D nf M)=>gv w1 D nf M vm sd fi se A 2 ix h1 hm hn hA0
 have hbs:(rcM M nf vm sd fi se A 2 ix).bs=M.bs:=rfl
 obtain ⟨M',hM'⟩:∃ M',rcM M nf vm sd fi se A 2 ix=M':=⟨_,rfl⟩
 obtain ⟨F,hF⟩:∃ F,rcF M nf vm sd fi se A 2=F:=⟨_,rfl⟩
 obtain ⟨P,hP⟩:∃ P,rcP M nf vm sd fi se A 2=P:=⟨_,rfl⟩
 rw[hM',hF,hP] at HR
 have HSt:∀ w1,IsMd w1 D nf M'→Calls pQ 24 #[π (some ⟨D.p,0,none⟩),U κ P,U κ 1,U μ ((c.r a:Nat):Int)] w1 fun e w'=>e=ρ (U κ (dk P 1 nf))∧Fr (at' D.f) w1 w'∧IsMd w' D nf { M' with bs:=kj M.bs P 1 nf (c.r a) }:=fun w1 h1=>by
  have h2:=h1.r
  rw[←hM',hbs] at h2
  exact(qk w1 D.p D.f nf M.bs P 1 (c.r a) h2 (hok.r a)).mono fun e w' ⟨he,f,q⟩=>⟨he,f,h1.mem f q⟩
 simp only[hM',hF,hP] at hk ⊢
 obtain ⟨M2,hM2⟩:∃ M2,({ M' with bs:=kj M.bs P 1 nf (c.r a) }:Mc)=M2:=⟨_,rfl⟩
 rw[hM2] at HSt ⊢
 clear hM2 hbs
 clear hM' hF hP hm
 unfold Bd.a at HR ⊢
 have HL:Hid (∀ k,D.y k→k<w.heap.size):=h.lt
 obtain ⟨v0,gm,gc,gi,gs,gr,gt,hv0,hgm,hgc,hgi,hgs,hgr,hgt,HG,pm,pc,pi,ps,pr,pt,f0⟩:=co w D c 10 a b d i vm sd fi se
 go_enter Tryz.func35,Tryz.ntmps35
 go_upto_region 1 with fail
 rw[←hv0,←hgt,←hgr,←hgs,←hgi,←hgc,←hgm]
 clear hv0 hgm hgc hgi hgs hgr hgt
 have yb:v0.cell? ⟨gc,b,none⟩=some (U μ ((c.r b:Nat):Int)):=pc.rg hb
 obtain ⟨x0,x1,x2,x3,x4⟩:=bl pi
 have ib:0≤(b:Int)∧(b:Int)<16:=by omega
 have rb:=hok.r b
 have e1:=m5 i (by omega)
 have e2:IntKind.u32.wrap (((c.r b:Nat):Int)+(i:Int))=(((c.r b+i)%4294967296:Nat):Int):=by rw[IntKind.wrap_u32];omega
 obtain ⟨s,hs⟩:∃ s:Nat,(c.r b+i)%4294967296=s:=⟨_,rfl⟩
 have hsl:s<4294967296:=by omega
 have hA:A=((s%65536:Nat):Int):=by rw[hAd];omega
 rw[hs] at e2
 have e3:((s:Int)%65536)=A:=by omega
 have e7:(((c.r b:Nat):Int)+(i:Int))%4294967296=(s:Int):=by omega
 have hAr:0≤A∧A≤65535:=by omega
 clear hs hA
 have e5:A.tmod 1=0:=Int.tmod_one A
 clear hAd hq
 go_wp2_with fail
 go_quiet (fail)
 go_upto_region 13 with fail
 have fd:Fr bg v0 (v0.drewN nq):=bo v0 nq
 replace pm:=pm.keep fd (fun h=>h)
 replace pc:=pc.keep fd (fun h=>h)
 replace pi:=pi.keep fd (fun h=>h)
 replace ps:=ps.keep fd (fun h=>h)
 replace pr:=pr.keep fd (fun h=>h)
 replace pt:=pt.keep fd (fun h=>h)
 have h1:=h.keep0 (f0.trans fd)
 have f1:Fr D.s w (v0.drewN nq):=(di f0).trans (di fd)
 clear fd f0
 obtain ⟨v1,hv1⟩:∃ v1,v1=v0.drewN nq:=⟨_,rfl⟩
 rw[←hv1] at pm pc pi ps pr pt h1 f1 ⊢
 clear hv1
 obtain ⟨m0,m1,m2⟩:v1.cell? ⟨gm,0,none⟩=some (π (some ⟨D.p,0,none⟩))∧v1.cell? ⟨gm,1,none⟩=some (π (some ⟨D.t,0,none⟩))∧v1.cell? ⟨gm,2,none⟩=some (gu D.v):=⟨pm.cell 0,pm.cell 1,pm.cell 2⟩
 obtain ⟨s0,s1,s2,s3⟩:v1.cell? ⟨gs,0,none⟩=some (U κ vm)∧v1.cell? ⟨gs,1,none⟩=some (U κ sd)∧v1.cell? ⟨gs,2,none⟩=some (U κ fi)∧v1.cell? ⟨gs,3,none⟩=some (U κ se):=⟨ps.cell 0,ps.cell 1,ps.cell 2,ps.cell 3⟩
 go_wp2_with fail
 refine(HR v1 h1).mono ?_
 rintro e v2 ⟨rfl,f2,h2⟩
 clear HR h1 m0 m1 m2 s0 s1 s2 s3 x0 x1 x2 x3 x4 yb ps
 have ng:∀ g,w.heap.size≤g→¬ D.s g:=fun g hg e=>absurd (HL.out _ (Or.inl e)) (by omega)
 replace pm:=pm.keep f2 (ng _ (by have:=HG.out;omega))
 replace pc:=pc.keep f2 (ng _ (by have:=HG.out;omega))
 replace pi:=pi.keep f2 (ng _ (by have:=HG.out;omega))
 replace pr:=pr.keep f2 (ng _ (by have:=HG.out;omega))
 replace pt:=pt.keep f2 (ng _ (by have:=HG.out;omega))
 replace f2:=f1.trans f2
 clear f1 ng
 have HS2:gr<v2.heap.size∧gt<v2.heap.size∧gc<v2.heap.size∧gi<v2.heap.size∧gm<v2.heap.size:=⟨pr.lt,pt.lt,pc.lt,pi.lt,pm.lt⟩
 have t2:(F.k != 0)=false:=by simp[hk]
 have pm':=pm.alloc (ω #[U κ 0,U κ F.s,U κ F.l,β F.wk,U κ F.p] 50)
 have pc':=pc.alloc (ω #[U κ 0,U κ F.s,U κ F.l,β F.wk,U κ F.p] 50)
 have pi':=pi.alloc (ω #[U κ 0,U κ F.s,U κ F.l,β F.wk,U κ F.p] 50)
 have pr':=pr.alloc (ω #[U κ 0,U κ F.s,U κ F.l,β F.wk,U κ F.p] 50)
 have pt':=pt.alloc (ω #[U κ 0,U κ F.s,U κ F.l,β F.wk,U κ F.p] 50)
 have h3:=h2.alloc (ω #[U κ 0,U κ F.s,U κ F.l,β F.wk,U κ F.p] 50)
 have f3:=f2.alloc (ω #[U κ 0,U κ F.s,U κ F.l,β F.wk,U κ F.p] 50)
 go_upto_region 16 with fail
 clear HS2 h2 f2 pm pc pi pr pt
 obtain ⟨v3,hv3⟩:∃ v3,v3=v2.alloc (ω #[U κ 0,U κ F.s,U κ F.l,β F.wk,U κ F.p] 50):=⟨_,rfl⟩
 rw[←hv3] at pm' pc' pi' pr' pt' h3 f3 ⊢
 clear hv3
 have pm:=pm'
 clear pm'
 have pc:=pc'
 clear pc'
 have pi:=pi'
 clear pi'
 have pr:=pr'
 clear pr'
 have pt:=pt'
 clear pt'
 have ia:0≤(a:Int)∧(a:Int)<16:=by omega
 have e4:IntKind.i64.wrap (c.pc+4)=c.pc+4:=by rw[IntKind.wrap_i64];omega
 have NN:Hid (gm≠D.f∧gi≠D.f∧gc≠D.f∧gr≠D.f∧gt≠D.f):=(show _∧_ by have:=HL.out D.f (Or.inl (Or.inl rfl));have:=HG.out;omega)
 go_upto_region 19 with fail
 have h3d:=h3.drew
 go_region_held3 (fun w'=>w'.cell? ⟨gm,0,none⟩=some (π (some ⟨D.p,0,none⟩))∧w'.cell? ⟨gi,1,none⟩=some (U κ (a:Int))∧w'.cell? ⟨gc,a,none⟩=some (U μ ((c.r a:Nat):Int))) (first | with_reducible exact ⟨pm.cell 0,pi.cell 1,pc.rg ha⟩ | exact ⟨pm.cell 0,pi.cell 1,pc.rg ha⟩) (first | (go_at_call 24;refine(HSt _ h3d).mono ?_;rintro e v4 ⟨rfl,f4,h4⟩;replace f4:=ks f4;replace pm:=pm.keep f4 (fun e=>NN.out.1 e);replace pi:=pi.keep f4 (fun e=>NN.out.2.1 e);replace pc:=pc.keep f4 (fun e=>NN.out.2.2.1 e)))
 clear h3d h3
 replace pr:=pr.keep f4 (fun e=>NN.out.2.2.2.1 e)
 replace pt:=pt.keep f4 (fun e=>NN.out.2.2.2.2 e)
 replace f4:=f3.trans (frd_f f4)
 have yp:=pc.pc
 go_wp2_with (refine bh rfl 30 _ rfl gc rfl (cpA c) _ (cq pc) Tryz.underlying30 rfl (bk _) ?_)
 refine(cn _ c (c.pc+4) (by omega)).mono ?_
 rintro e v5 ⟨rfl,f5⟩
 have h5:=h4.keep0 f5
 replace pr:=pr.keep f5 (fun h=>h)
 replace pt:=pt.keep f5 (fun h=>h)
 replace f5:=f4.trans (di f5)
 clear yp pc pi pm f4 h4 f3 HSt
 have nrt:¬ at' gr gt:=fun e=>by have e':gt=gr:=e;have:=HG.out;omega
 have ntr:¬ at' gt gr:=fun e=>by have e':gr=gt:=e;have:=HG.out;omega
 have pt1:=pt.keep (bb v5 gr (cpA (c.setP ((c.pc+4)%65536)))) nrt
 have qt:=pt1.setRow (A:=#[U κ 0,U κ 0,U κ 0,U κ 0,U κ 0,U κ 0,β false,U κ 0])
 have qr:=(pr.setRow (A:=cpA (c.setP ((c.pc+4)%65536)))).keep (bb _ gt #[U κ 0,U κ 0,U κ 0,U κ 0,U κ 0,U κ 0,β false,U κ 0]) ntr
 have HE:Hid (Fr D.s w ((v5.setRow gr (cpA (c.setP ((c.pc+4)%65536)))).setRow gt #[U κ 0,U κ 0,U κ 0,U κ 0,U κ 0,U κ 0,β false,U κ 0])∧IsMd ((v5.setRow gr (cpA (c.setP ((c.pc+4)%65536)))).setRow gt #[U κ 0,U κ 0,U κ 0,U κ 0,U κ 0,U κ 0,β false,U κ 0]) D nf _):=⟨bp (bp f5 (g:=gr) (by have:=HG.out;omega) _) (g:=gt) (by have:=HG.out;omega) _,(h5.past (bb _ gr _) (fun k hk=>by have:=HL.out k hk;have:=HG.out;omega)).past (bb _ gt _) (fun k hk=>by have:=HL.out k hk;have:=HG.out;omega)⟩
 go_wp2_with (first | refine wpList_store_row rfl 30 _ _ rfl gr (cpA (c.setP ((c.pc+4)%65536))) rfl rfl 30 _ pr (bk _) (bj _).symm (bw _) ?_ | refine wpList_store_row rfl 52 _ _ rfl gt #[U κ 0,U κ 0,U κ 0,U κ 0,U κ 0,U κ 0,β false,U κ 0] rfl rfl 52 _ pt1 bn rfl (by simp[Value.oneCell']) ?_)
 refine bodyPost_ret (d8 rfl rfl rfl qr (bj _) qt rfl) rfl ?_
 exact ⟨rfl,HE.out⟩
end Go.Proofs.YtibhbjbpodlpiaaGreat
