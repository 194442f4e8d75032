/-
  Contracts over the translation. No statement is proved here.
-/
import Derived.Test.YtibhbjbpodlpiaaGreatQCpuStep2
import Derived.Test.YtibhbjbpodlpiaaGreatQJU
set_option maxRecDepth 100000
set_option maxHeartbeats 8000000
namespace Go.Proofs.YtibhbjbpodlpiaaGreat
open Go.RowKit
open Go.Value renaming int → U, bool → β, pointer → π, tuple → τ
open Go.IntKind renaming i64 → κ, u32 → μ
open Go.Obj renaming cells → ω
open Go.Ending renaming returned → ρ
open Go.Proofs.Tryz renaming prog → pQ
theorem dtch_ld7 (w:World) (D:Bd) (nf:Nat) (M:Mc) (c:Cp) (hok:c.Ok) (vm sd fi se ix:Int) (a b d i:Nat) (ha:a<16) (hb:b<16) (hi:i<65536) (hp:0≤c.pc∧c.pc≤65535) (h:IsMd w D nf M) (A:Int) (hAd:A=(((c.r b+i)%65536:Nat):Int)) {n:Nat} (hm:M.few n) (hn:n<999990) (hq:A%4=0) (hk:(rcF M nf vm sd fi se A 1).k=0) :
  Calls pQ 35 #[D.a,.agg (cpA c),.agg #[U κ 7,U κ (a:Int),U κ (b:Int),U κ (d:Int),U κ (i:Int)],.agg #[U κ vm,U κ sd,U κ fi,U κ se],U κ ix] w fun e w'=>e=ρ (τ #[.agg (cpA ((c.setR a (j5 M.bs (rcP M nf vm sd fi se A 1) 4 nf).toNat).setP ((c.pc+4)%65536))),.agg (trL t0)])∧Fr D.s w w'∧IsMd w' D nf (rcM M nf vm sd fi se A 1 ix):=by
 have hA0:0≤A∧A≤65535:=by omega
 have HR:=fun w1 (h1:IsMd w1 D nf M)=>gv w1 D nf M vm sd fi se A 1 ix h1 hm hn hA0
 have hbs:(rcM M nf vm sd fi se A 1 ix).bs=M.bs:=rfl
 have hlv:=lu M.bs (rcP M nf vm sd fi se A 1) 4 nf (by decide)
 obtain ⟨y,hy⟩:∃ y:Nat,j5 M.bs (rcP M nf vm sd fi se A 1) 4 nf=y:=⟨(j5 M.bs (rcP M nf vm sd fi se A 1) 4 nf).toNat,by omega⟩
 obtain ⟨M',hM'⟩:∃ M',rcM M nf vm sd fi se A 1 ix=M':=⟨_,rfl⟩
 obtain ⟨F,hF⟩:∃ F,rcF M nf vm sd fi se A 1=F:=⟨_,rfl⟩
 obtain ⟨P,hP⟩:∃ P,rcP M nf vm sd fi se A 1=P:=⟨_,rfl⟩
 rw[hM',hF,hP] at HR
 simp only[hy,Int.toNat_natCast]
 have hy2:y<4294967296:=by omega
 have HLd:∀ w1,IsMd w1 D nf M'→Calls pQ 30 #[π (some ⟨D.p,0,none⟩),U κ P,U κ 4] w1 fun e w'=>e=ρ (τ #[U μ (y:Int),U κ (dk P 4 nf)])∧w'=w1:=fun w1 h1=>by
  have h2:=h1.r
  rw[←hM',hbs] at h2
  have:=la w1 D.p D.f nf M.bs P 4 h2
  rw[←hP,hy] at this
  rw[hP] at this
  exact this
 clear hlv hy hbs
 simp only[hM',hF] at hk ⊢
 clear hM' hF hP hm
 unfold Bd.a at HR ⊢
 have HL:Hid (∀ k,D.y k→k<w.heap.size):=h.lt
 obtain ⟨v0,gm,gc,gi,gs,gr,gt,hv0,hgm,hgc,hgi,hgs,hgr,hgt,HG,pm,pc,pi,ps,pr,pt,f0⟩:=co w D c 7 a b d i vm sd fi se
 go_enter Tryz.func35,Tryz.ntmps35
 go_upto_region 1 with fail
 rw[←hv0,←hgt,←hgr,←hgs,←hgi,←hgc,←hgm]
 clear hv0 hgm hgc hgi hgs hgr hgt
 have yb:v0.cell? ⟨gc,b,none⟩=some (U μ ((c.r b:Nat):Int)):=pc.rg hb
 obtain ⟨x0,x1,x2,x3,x4⟩:=bl pi
 have ib:0≤(b:Int)∧(b:Int)<16:=by omega
 have rb:=hok.r b
 have e1:=m5 i (by omega)
 have e2:IntKind.u32.wrap (((c.r b:Nat):Int)+(i:Int))=(((c.r b+i)%4294967296:Nat):Int):=by rw[IntKind.wrap_u32];omega
 obtain ⟨s,hs⟩:∃ s:Nat,(c.r b+i)%4294967296=s:=⟨_,rfl⟩
 have hsl:s<4294967296:=by omega
 have hA:A=((s%65536:Nat):Int):=by rw[hAd];omega
 rw[hs] at e2
 have e3:((s:Int)%65536)=A:=by omega
 have e7:(((c.r b:Nat):Int)+(i:Int))%4294967296=(s:Int):=by omega
 have hAr:0≤A∧A≤65535:=by omega
 clear hs hA
 have e5:A.tmod 4=0:=by rw[Int.tmod_eq_emod_of_nonneg hAr.1];exact hq
 clear hAd hq
 go_wp2_with fail
 go_quiet (fail)
 go_upto_region 13 with fail
 have fd:Fr bg v0 (v0.drewN nq):=bo v0 nq
 replace pm:=pm.keep fd (fun h=>h)
 replace pc:=pc.keep fd (fun h=>h)
 replace pi:=pi.keep fd (fun h=>h)
 replace ps:=ps.keep fd (fun h=>h)
 replace pr:=pr.keep fd (fun h=>h)
 replace pt:=pt.keep fd (fun h=>h)
 have h1:=h.keep0 (f0.trans fd)
 have f1:Fr D.s w (v0.drewN nq):=(di f0).trans (di fd)
 clear fd f0
 obtain ⟨v1,hv1⟩:∃ v1,v1=v0.drewN nq:=⟨_,rfl⟩
 rw[←hv1] at pm pc pi ps pr pt h1 f1 ⊢
 clear hv1
 obtain ⟨m0,m1,m2⟩:v1.cell? ⟨gm,0,none⟩=some (π (some ⟨D.p,0,none⟩))∧v1.cell? ⟨gm,1,none⟩=some (π (some ⟨D.t,0,none⟩))∧v1.cell? ⟨gm,2,none⟩=some (gu D.v):=⟨pm.cell 0,pm.cell 1,pm.cell 2⟩
 obtain ⟨s0,s1,s2,s3⟩:v1.cell? ⟨gs,0,none⟩=some (U κ vm)∧v1.cell? ⟨gs,1,none⟩=some (U κ sd)∧v1.cell? ⟨gs,2,none⟩=some (U κ fi)∧v1.cell? ⟨gs,3,none⟩=some (U κ se):=⟨ps.cell 0,ps.cell 1,ps.cell 2,ps.cell 3⟩
 go_wp2_with fail
 refine(HR v1 h1).mono ?_
 rintro e v2 ⟨rfl,f2,h2⟩
 clear HR h1 m0 m1 m2 s0 s1 s2 s3 x0 x1 x2 x3 x4 yb ps
 have ng:∀ g,w.heap.size≤g→¬ D.s g:=fun g hg e=>absurd (HL.out _ (Or.inl e)) (by omega)
 replace pm:=pm.keep f2 (ng _ (by have:=HG.out;omega))
 replace pc:=pc.keep f2 (ng _ (by have:=HG.out;omega))
 replace pi:=pi.keep f2 (ng _ (by have:=HG.out;omega))
 replace pr:=pr.keep f2 (ng _ (by have:=HG.out;omega))
 replace pt:=pt.keep f2 (ng _ (by have:=HG.out;omega))
 replace f2:=f1.trans f2
 clear f1 ng
 have HS2:gr<v2.heap.size∧gt<v2.heap.size∧gc<v2.heap.size∧gi<v2.heap.size∧gm<v2.heap.size:=⟨pr.lt,pt.lt,pc.lt,pi.lt,pm.lt⟩
 have t2:(F.k != 0)=false:=by simp[hk]
 have pm':=pm.alloc (ω #[U κ 0,U κ F.s,U κ F.l,β F.wk,U κ F.p] 50)
 have pc':=pc.alloc (ω #[U κ 0,U κ F.s,U κ F.l,β F.wk,U κ F.p] 50)
 have pi':=pi.alloc (ω #[U κ 0,U κ F.s,U κ F.l,β F.wk,U κ F.p] 50)
 have pr':=pr.alloc (ω #[U κ 0,U κ F.s,U κ F.l,β F.wk,U κ F.p] 50)
 have pt':=pt.alloc (ω #[U κ 0,U κ F.s,U κ F.l,β F.wk,U κ F.p] 50)
 have h3:=h2.alloc (ω #[U κ 0,U κ F.s,U κ F.l,β F.wk,U κ F.p] 50)
 have f3:=f2.alloc (ω #[U κ 0,U κ F.s,U κ F.l,β F.wk,U κ F.p] 50)
 go_upto_region 16 with fail
 clear HS2 h2 f2 pm pc pi pr pt
 obtain ⟨v3,hv3⟩:∃ v3,v3=v2.alloc (ω #[U κ 0,U κ F.s,U κ F.l,β F.wk,U κ F.p] 50):=⟨_,rfl⟩
 rw[←hv3] at pm' pc' pi' pr' pt' h3 f3 ⊢
 clear hv3
 have pm:=pm'
 clear pm'
 have pc:=pc'
 clear pc'
 have pi:=pi'
 clear pi'
 have pr:=pr'
 clear pr'
 have pt:=pt'
 clear pt'
 obtain ⟨x0,x1,x2,x3,x4⟩:=bl pi
 have m0:v3.cell? ⟨gm,0,none⟩=some (π (some ⟨D.p,0,none⟩)):=pm.cell 0
 have ya:v3.cell? ⟨gc,a,none⟩=some (U μ ((c.r a:Nat):Int)):=pc.rg ha
 have yf:=pc.frozen a
 have ia:0≤(a:Int)∧(a:Int)<16:=by omega
 have e4:IntKind.i64.wrap (c.pc+4)=c.pc+4:=by rw[IntKind.wrap_i64];omega
 go_wp2_with fail
 refine(HLd v3 h3).mono ?_
 rintro e v ⟨rfl,rfl⟩
 have g1:=cy v gc a (U μ (y:Int)) (Fr.refl (at' gc) v)
 have h4:=h3.past g1 (fun k hk=>by have:=HL.out k hk;have:=HG.out;omega)
 have f4:=f3.newerS g1 (by have:=HG.out;omega)
 have pc4:=pc.setRg ha y
 have yp:(v.setCell ⟨gc,a,none⟩ (U μ (y:Int))).cell? ⟨gc,16,none⟩=some (U κ c.pc):=pc4.pc
 replace pr:=pr.keep g1 (fun e=>by have e':gr=gc:=e;have:=HG.out;omega)
 replace pt:=pt.keep g1 (fun e=>by have e':gt=gc:=e;have:=HG.out;omega)
 clear g1 m0
 go_wp2_with (refine bh rfl 30 _ rfl gc rfl (cpA (c.setR a y)) _ (cq pc4) Tryz.underlying30 rfl (bk _) ?_)
 refine(cn _ (c.setR a y) (c.pc+4) (by omega)).mono ?_
 rintro e v5 ⟨rfl,f5⟩
 have h5:=h4.keep0 f5
 replace pr:=pr.keep f5 (fun h=>h)
 replace pt:=pt.keep f5 (fun h=>h)
 replace f5:=f4.trans (di f5)
 clear x0 x1 x2 x3 x4 ya yf yp pc4 pc pi pm f4 h4 f3 h3 HLd
 have nrt:¬ at' gr gt:=fun e=>by have e':gt=gr:=e;have:=HG.out;omega
 have ntr:¬ at' gt gr:=fun e=>by have e':gr=gt:=e;have:=HG.out;omega
 have pt1:=pt.keep (bb v5 gr (cpA ((c.setR a y).setP ((c.pc+4)%65536)))) nrt
 have qt:=pt1.setRow (A:=#[U κ 0,U κ 0,U κ 0,U κ 0,U κ 0,U κ 0,β false,U κ 0])
 have qr:=(pr.setRow (A:=cpA ((c.setR a y).setP ((c.pc+4)%65536)))).keep (bb _ gt #[U κ 0,U κ 0,U κ 0,U κ 0,U κ 0,U κ 0,β false,U κ 0]) ntr
 have HE:Hid (Fr D.s w ((v5.setRow gr (cpA ((c.setR a y).setP ((c.pc+4)%65536)))).setRow gt #[U κ 0,U κ 0,U κ 0,U κ 0,U κ 0,U κ 0,β false,U κ 0])∧IsMd ((v5.setRow gr (cpA ((c.setR a y).setP ((c.pc+4)%65536)))).setRow gt #[U κ 0,U κ 0,U κ 0,U κ 0,U κ 0,U κ 0,β false,U κ 0]) D nf _):=⟨bp (bp f5 (g:=gr) (by have:=HG.out;omega) _) (g:=gt) (by have:=HG.out;omega) _,(h5.past (bb _ gr _) (fun k hk=>by have:=HL.out k hk;have:=HG.out;omega)).past (bb _ gt _) (fun k hk=>by have:=HL.out k hk;have:=HG.out;omega)⟩
 go_wp2_with (first | refine wpList_store_row rfl 30 _ _ rfl gr (cpA ((c.setR a y).setP ((c.pc+4)%65536))) rfl rfl 30 _ pr (bk _) (bj _).symm (bw _) ?_ | refine wpList_store_row rfl 52 _ _ rfl gt #[U κ 0,U κ 0,U κ 0,U κ 0,U κ 0,U κ 0,β false,U κ 0] rfl rfl 52 _ pt1 bn rfl (by simp[Value.oneCell']) ?_)
 refine bodyPost_ret (d8 rfl rfl rfl qr (bj _) qt rfl) rfl ?_
 exact ⟨rfl,HE.out⟩
theorem dtch_ld9 (w:World) (D:Bd) (nf:Nat) (M:Mc) (c:Cp) (hok:c.Ok) (vm sd fi se ix:Int) (a b d i:Nat) (ha:a<16) (hb:b<16) (hi:i<65536) (hp:0≤c.pc∧c.pc≤65535) (h:IsMd w D nf M) (A:Int) (hAd:A=(((c.r b+i)%65536:Nat):Int)) {n:Nat} (hm:M.few n) (hn:n<999990) (hq:A%1=0) (hk:(rcF M nf vm sd fi se A 1).k=0) :
  Calls pQ 35 #[D.a,.agg (cpA c),.agg #[U κ 9,U κ (a:Int),U κ (b:Int),U κ (d:Int),U κ (i:Int)],.agg #[U κ vm,U κ sd,U κ fi,U κ se],U κ ix] w fun e w'=>e=ρ (τ #[.agg (cpA ((c.setR a (j5 M.bs (rcP M nf vm sd fi se A 1) 1 nf).toNat).setP ((c.pc+4)%65536))),.agg (trL t0)])∧Fr D.s w w'∧IsMd w' D nf (rcM M nf vm sd fi se A 1 ix):=by
 have hA0:0≤A∧A≤65535:=by omega
 have HR:=fun w1 (h1:IsMd w1 D nf M)=>gv w1 D nf M vm sd fi se A 1 ix h1 hm hn hA0
 have hbs:(rcM M nf vm sd fi se A 1 ix).bs=M.bs:=rfl
 have hlv:=lu M.bs (rcP M nf vm sd fi se A 1) 1 nf (by decide)
 obtain ⟨y,hy⟩:∃ y:Nat,j5 M.bs (rcP M nf vm sd fi se A 1) 1 nf=y:=⟨(j5 M.bs (rcP M nf vm sd fi se A 1) 1 nf).toNat,by omega⟩
 obtain ⟨M',hM'⟩:∃ M',rcM M nf vm sd fi se A 1 ix=M':=⟨_,rfl⟩
 obtain ⟨F,hF⟩:∃ F,rcF M nf vm sd fi se A 1=F:=⟨_,rfl⟩
 obtain ⟨P,hP⟩:∃ P,rcP M nf vm sd fi se A 1=P:=⟨_,rfl⟩
 rw[hM',hF,hP] at HR
 simp only[hy,Int.toNat_natCast]
 have hy2:y<4294967296:=by omega
 have HLd:∀ w1,IsMd w1 D nf M'→Calls pQ 30 #[π (some ⟨D.p,0,none⟩),U κ P,U κ 1] w1 fun e w'=>e=ρ (τ #[U μ (y:Int),U κ (dk P 1 nf)])∧w'=w1:=fun w1 h1=>by
  have h2:=h1.r
  rw[←hM',hbs] at h2
  have:=la w1 D.p D.f nf M.bs P 1 h2
  rw[←hP,hy] at this
  rw[hP] at this
  exact this
 clear hlv hy hbs
 simp only[hM',hF] at hk ⊢
 clear hM' hF hP hm
 unfold Bd.a at HR ⊢
 have HL:Hid (∀ k,D.y k→k<w.heap.size):=h.lt
 obtain ⟨v0,gm,gc,gi,gs,gr,gt,hv0,hgm,hgc,hgi,hgs,hgr,hgt,HG,pm,pc,pi,ps,pr,pt,f0⟩:=co w D c 9 a b d i vm sd fi se
 go_enter Tryz.func35,Tryz.ntmps35
 go_upto_region 1 with fail
 rw[←hv0,←hgt,←hgr,←hgs,←hgi,←hgc,←hgm]
 clear hv0 hgm hgc hgi hgs hgr hgt
 have yb:v0.cell? ⟨gc,b,none⟩=some (U μ ((c.r b:Nat):Int)):=pc.rg hb
 obtain ⟨x0,x1,x2,x3,x4⟩:=bl pi
 have ib:0≤(b:Int)∧(b:Int)<16:=by omega
 have rb:=hok.r b
 have e1:=m5 i (by omega)
 have e2:IntKind.u32.wrap (((c.r b:Nat):Int)+(i:Int))=(((c.r b+i)%4294967296:Nat):Int):=by rw[IntKind.wrap_u32];omega
 obtain ⟨s,hs⟩:∃ s:Nat,(c.r b+i)%4294967296=s:=⟨_,rfl⟩
 have hsl:s<4294967296:=by omega
 have hA:A=((s%65536:Nat):Int):=by rw[hAd];omega
 rw[hs] at e2
 have e3:((s:Int)%65536)=A:=by omega
 have e7:(((c.r b:Nat):Int)+(i:Int))%4294967296=(s:Int):=by omega
 have hAr:0≤A∧A≤65535:=by omega
 clear hs hA
 have e5:A.tmod 1=0:=Int.tmod_one A
 clear hAd hq
 go_wp2_with fail
 go_quiet (fail)
 go_upto_region 13 with fail
 have fd:Fr bg v0 (v0.drewN nq):=bo v0 nq
 replace pm:=pm.keep fd (fun h=>h)
 replace pc:=pc.keep fd (fun h=>h)
 replace pi:=pi.keep fd (fun h=>h)
 replace ps:=ps.keep fd (fun h=>h)
 replace pr:=pr.keep fd (fun h=>h)
 replace pt:=pt.keep fd (fun h=>h)
 have h1:=h.keep0 (f0.trans fd)
 have f1:Fr D.s w (v0.drewN nq):=(di f0).trans (di fd)
 clear fd f0
 obtain ⟨v1,hv1⟩:∃ v1,v1=v0.drewN nq:=⟨_,rfl⟩
 rw[←hv1] at pm pc pi ps pr pt h1 f1 ⊢
 clear hv1
 obtain ⟨m0,m1,m2⟩:v1.cell? ⟨gm,0,none⟩=some (π (some ⟨D.p,0,none⟩))∧v1.cell? ⟨gm,1,none⟩=some (π (some ⟨D.t,0,none⟩))∧v1.cell? ⟨gm,2,none⟩=some (gu D.v):=⟨pm.cell 0,pm.cell 1,pm.cell 2⟩
 obtain ⟨s0,s1,s2,s3⟩:v1.cell? ⟨gs,0,none⟩=some (U κ vm)∧v1.cell? ⟨gs,1,none⟩=some (U κ sd)∧v1.cell? ⟨gs,2,none⟩=some (U κ fi)∧v1.cell? ⟨gs,3,none⟩=some (U κ se):=⟨ps.cell 0,ps.cell 1,ps.cell 2,ps.cell 3⟩
 go_wp2_with fail
 refine(HR v1 h1).mono ?_
 rintro e v2 ⟨rfl,f2,h2⟩
 clear HR h1 m0 m1 m2 s0 s1 s2 s3 x0 x1 x2 x3 x4 yb ps
 have ng:∀ g,w.heap.size≤g→¬ D.s g:=fun g hg e=>absurd (HL.out _ (Or.inl e)) (by omega)
 replace pm:=pm.keep f2 (ng _ (by have:=HG.out;omega))
 replace pc:=pc.keep f2 (ng _ (by have:=HG.out;omega))
 replace pi:=pi.keep f2 (ng _ (by have:=HG.out;omega))
 replace pr:=pr.keep f2 (ng _ (by have:=HG.out;omega))
 replace pt:=pt.keep f2 (ng _ (by have:=HG.out;omega))
 replace f2:=f1.trans f2
 clear f1 ng
 have HS2:gr<v2.heap.size∧gt<v2.heap.size∧gc<v2.heap.size∧gi<v2.heap.size∧gm<v2.heap.size:=⟨pr.lt,pt.lt,pc.lt,pi.lt,pm.lt⟩
 have t2:(F.k != 0)=false:=by simp[hk]
 have pm':=pm.alloc (ω #[U κ 0,U κ F.s,U κ F.l,β F.wk,U κ F.p] 50)
 have pc':=pc.alloc (ω #[U κ 0,U κ F.s,U κ F.l,β F.wk,U κ F.p] 50)
 have pi':=pi.alloc (ω #[U κ 0,U κ F.s,U κ F.l,β F.wk,U κ F.p] 50)
 have pr':=pr.alloc (ω #[U κ 0,U κ F.s,U κ F.l,β F.wk,U κ F.p] 50)
 have pt':=pt.alloc (ω #[U κ 0,U κ F.s,U κ F.l,β F.wk,U κ F.p] 50)
 have h3:=h2.alloc (ω #[U κ 0,U κ F.s,U κ F.l,β F.wk,U κ F.p] 50)
 have f3:=f2.alloc (ω #[U κ 0,U κ F.s,U κ F.l,β F.wk,U κ F.p] 50)
 go_upto_region 16 with fail
 clear HS2 h2 f2 pm pc pi pr pt
 obtain ⟨v3,hv3⟩:∃ v3,v3=v2.alloc (ω #[U κ 0,U κ F.s,U κ F.l,β F.wk,U κ F.p] 50):=⟨_,rfl⟩
 rw[←hv3] at pm' pc' pi' pr' pt' h3 f3 ⊢
 clear hv3
 have pm:=pm'
 clear pm'
 have pc:=pc'
 clear pc'
 have pi:=pi'
 clear pi'
 have pr:=pr'
 clear pr'
 have pt:=pt'
 clear pt'
 obtain ⟨x0,x1,x2,x3,x4⟩:=bl pi
 have m0:v3.cell? ⟨gm,0,none⟩=some (π (some ⟨D.p,0,none⟩)):=pm.cell 0
 have ya:v3.cell? ⟨gc,a,none⟩=some (U μ ((c.r a:Nat):Int)):=pc.rg ha
 have yf:=pc.frozen a
 have ia:0≤(a:Int)∧(a:Int)<16:=by omega
 have e4:IntKind.i64.wrap (c.pc+4)=c.pc+4:=by rw[IntKind.wrap_i64];omega
 go_wp2_with fail
 refine(HLd v3 h3).mono ?_
 rintro e v ⟨rfl,rfl⟩
 have g1:=cy v gc a (U μ (y:Int)) (Fr.refl (at' gc) v)
 have h4:=h3.past g1 (fun k hk=>by have:=HL.out k hk;have:=HG.out;omega)
 have f4:=f3.newerS g1 (by have:=HG.out;omega)
 have pc4:=pc.setRg ha y
 have yp:(v.setCell ⟨gc,a,none⟩ (U μ (y:Int))).cell? ⟨gc,16,none⟩=some (U κ c.pc):=pc4.pc
 replace pr:=pr.keep g1 (fun e=>by have e':gr=gc:=e;have:=HG.out;omega)
 replace pt:=pt.keep g1 (fun e=>by have e':gt=gc:=e;have:=HG.out;omega)
 clear g1 m0
 go_wp2_with (refine bh rfl 30 _ rfl gc rfl (cpA (c.setR a y)) _ (cq pc4) Tryz.underlying30 rfl (bk _) ?_)
 refine(cn _ (c.setR a y) (c.pc+4) (by omega)).mono ?_
 rintro e v5 ⟨rfl,f5⟩
 have h5:=h4.keep0 f5
 replace pr:=pr.keep f5 (fun h=>h)
 replace pt:=pt.keep f5 (fun h=>h)
 replace f5:=f4.trans (di f5)
 clear x0 x1 x2 x3 x4 ya yf yp pc4 pc pi pm f4 h4 f3 h3 HLd
 have nrt:¬ at' gr gt:=fun e=>by have e':gt=gr:=e;have:=HG.out;omega
 have ntr:¬ at' gt gr:=fun e=>by have e':gr=gt:=e;have:=HG.out;omega
 have pt1:=pt.keep (bb v5 gr (cpA ((c.setR a y).setP ((c.pc+4)%65536)))) nrt
 have qt:=pt1.setRow (A:=#[U κ 0,U κ 0,U κ 0,U κ 0,U κ 0,U κ 0,β false,U κ 0])
 have qr:=(pr.setRow (A:=cpA ((c.setR a y).setP ((c.pc+4)%65536)))).keep (bb _ gt #[U κ 0,U κ 0,U κ 0,U κ 0,U κ 0,U κ 0,β false,U κ 0]) ntr
 have HE:Hid (Fr D.s w ((v5.setRow gr (cpA ((c.setR a y).setP ((c.pc+4)%65536)))).setRow gt #[U κ 0,U κ 0,U κ 0,U κ 0,U κ 0,U κ 0,β false,U κ 0])∧IsMd ((v5.setRow gr (cpA ((c.setR a y).setP ((c.pc+4)%65536)))).setRow gt #[U κ 0,U κ 0,U κ 0,U κ 0,U κ 0,U κ 0,β false,U κ 0]) D nf _):=⟨bp (bp f5 (g:=gr) (by have:=HG.out;omega) _) (g:=gt) (by have:=HG.out;omega) _,(h5.past (bb _ gr _) (fun k hk=>by have:=HL.out k hk;have:=HG.out;omega)).past (bb _ gt _) (fun k hk=>by have:=HL.out k hk;have:=HG.out;omega)⟩
 go_wp2_with (first | refine wpList_store_row rfl 30 _ _ rfl gr (cpA ((c.setR a y).setP ((c.pc+4)%65536))) rfl rfl 30 _ pr (bk _) (bj _).symm (bw _) ?_ | refine wpList_store_row rfl 52 _ _ rfl gt #[U κ 0,U κ 0,U κ 0,U κ 0,U κ 0,U κ 0,β false,U κ 0] rfl rfl 52 _ pt1 bn rfl (by simp[Value.oneCell']) ?_)
 refine bodyPost_ret (d8 rfl rfl rfl qr (bj _) qt rfl) rfl ?_
 exact ⟨rfl,HE.out⟩
end Go.Proofs.YtibhbjbpodlpiaaGreat
