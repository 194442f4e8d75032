/-
  Contracts over the translation. No statement is proved here.
-/
import Derived.Test.YtibhbjbpodlpiaaGreatQCdG
set_option maxRecDepth 100000
set_option maxHeartbeats 8000000
namespace Go.Proofs.YtibhbjbpodlpiaaGreat
open Go.RowKit
open Go.Value renaming int → U, bool → β, pointer → π, tuple → τ
open Go.IntKind renaming i64 → κ, u32 → μ
open Go.Obj renaming cells → ω
open Go.Ending renaming returned → ρ
open Go.Proofs.Tryz renaming prog → pQ
open List renaming setIfInBounds_toArray → sA, set_cons_succ → sB, set_cons_zero → sC
theorem wpOp_at {P:Program} {ops:Array Oper} {Q:Exit→Act→World→Prop} {i:Nat} {o:Oper} {v:Value} {K:Act→World→Prop} {a:Act} {w:World} (hi:ops[i]? = some o) (hw:Region.wanted o (yielded ops a.tmps)=true) (hv:(execOp a.eval o).run P w=.ok (.value v) w) (h:K (a.put o.dst v) w):wpOp P ops Q i K a w:=by
 unfold wpOp
 simp only[hi,hw,if_true,Oper.wp,hv,Oper.upon]
 exact .inl h
theorem wpOp_skip {P:Program} {ops:Array Oper} {Q:Exit→Act→World→Prop} {i:Nat} {o:Oper} {K:Act→World→Prop} {a:Act} {w w2:World} (hi:ops[i]? = some o) (hw:Region.wanted o (yielded ops a.tmps)=true) (hv:(execOp a.eval o).run P w=.ok .skip w2) (h:K (a.put o.dst undef) w2):wpOp P ops Q i K a w:=by
 unfold wpOp
 simp only[hi,hw,if_true,Oper.wp,hv,Oper.upon]
 exact .inl h
theorem wpOp_call {P:Program} {ops:Array Oper} {Q:Exit→Act→World→Prop} {i:Nat} {o:Oper} {f:Nat} {args:Array Value} {K:Act→World→Prop} {a:Act} {w:World} (hi:ops[i]? = some o) (hw:Region.wanted o (yielded ops a.tmps)=true) (hv:(execOp a.eval o).run P w=.ok (.enter f args) w) (h:Calls P f args w fun e w'=>∃ u,e=.returned u∧K (a.put o.dst u) w'):wpOp P ops Q i K a w:=by
 unfold wpOp
 simp only[hi,hw,if_true,Oper.wp,hv,Oper.upon]
 refine .inl (Calls.mono h ?_)
 rintro e w' ⟨u,rfl,h'⟩
 exact h'
theorem dstp_r (w:World) (D:Bd) (nf:Nat) (M:Mc) (c:Cp) (h:IsMd w D nf M) (vm se ix:Int) (hok:c.Ok) {n:Nat} (hm:M.few n) (hn:n<999990) (hp:c.pc%4=0∧0≤c.pc∧c.pc≤65535) (sd fi:Int) (hsd:spA M.V.isSome c=sd) (hfi:spF M.V.isSome c=fi) (hk:(rcF M nf vm sd fi se c.pc 4).k=0) (y:Nat) (hyl:y<4294967296) (hy:j5 M.bs (rcP M nf vm sd fi se c.pc 4) 4 nf=(y:Int)) (hd:dp (y:Int)=true) (o a b d i:Nat) (hw1:dOp (y:Int)=o) (hw2:dA (y:Int)=a) (hw3:dB (y:Int)=b) (hw4:dC (y:Int)=d) (hw5:dI (y:Int)=i) (ho:1≤o∧o≤6) (ha:a<16) (hb:b<16) (hd2:d<16) (hi:i<65536) :
  Calls pQ 7 #[D.a,.agg (cpA c),U κ vm,U κ se,U κ ix] w fun e w'=>e=ρ (τ #[.agg (cpA ((c.setR a (rkD o i (c.r b) (c.r d))).setP ((c.pc+4)%65536))),.agg (trL t0)])∧Fr D.s w w'∧IsMd w' D nf (rcM M nf vm sd fi se c.pc 4 ix):=by
 have hbs:(rcM M nf vm sd fi se c.pc 4 ix).bs=M.bs:=rfl
 have HDc:∀ w1,Calls pQ 31 #[U μ (y:Int)] w1 fun e w'=>e=ρ (τ #[.agg #[U κ (o:Int),U κ (a:Int),U κ (b:Int),U κ (d:Int),U κ (i:Int)],U κ 0])∧Fr bg w1 w':=fun w1=>by
  have:=mn y w1 hyl
  have e1:dE (y:Int)=0:=by unfold dE;rw[if_pos hd]
  rw[e1,hw1,hw2,hw3,hw4,hw5] at this
  exact this
 have HR:=fun w1 (h1:IsMd w1 D nf M)=>gv w1 D nf M vm sd fi se c.pc 4 ix h1 hm hn hp.2
 have HSp:=fun w1=>ku w1 D.p D.t D.v c hok vm se
 rw[h.v.same,hsd,hfi] at HSp
 obtain ⟨M',hM'⟩:∃ M',rcM M nf vm sd fi se c.pc 4 ix=M':=⟨_,rfl⟩
 obtain ⟨F,hF⟩:∃ F,rcF M nf vm sd fi se c.pc 4=F:=⟨_,rfl⟩
 obtain ⟨P,hP⟩:∃ P,rcP M nf vm sd fi se c.pc 4=P:=⟨_,rfl⟩
 rw[hM',hF,hP] at HR
 have HLd:∀ w1,IsMd w1 D nf M'→Calls pQ 30 #[π (some ⟨D.p,0,none⟩),U κ P,U κ 4] w1 fun e w'=>e=ρ (τ #[U μ (y:Int),U κ (dk P 4 nf)])∧w'=w1:=fun w1 h1=>by
  have h2:=h1.r
  rw[←hM',hbs] at h2
  have:=la w1 D.p D.f nf M.bs P 4 h2
  rw[←hP,hy] at this
  rw[hP] at this
  exact this
 have HK:=fun w1=>rreck_any w1 o a b d i (c.r b) (c.r d) ho hi (hok.r b) (hok.r d)
 obtain ⟨K,hK⟩:∃ q,rkD o i (c.r b) (c.r d)=q:=⟨_,rfl⟩
 rw[hK] at HK ⊢
 rw[hM']
 rw[hF] at hk
 clear hK hw1 hw2 hw3 hw4 hw5 hd
 clear hM' hF hP hm hsd hfi hy hbs
 unfold Bd.a at HR
 unfold Bd.a
 have HL:Hid (∀ k,D.y k→k<w.heap.size):=h.lt
 obtain ⟨v0,gm,gc,gr,gt,hv0,hgm,hgc,hgr,hgt,HG,pm,pc,pr,pt,f0⟩:=lc w D c
 go_enter Tryz.func7,Tryz.ntmps7
 go_upto_region 1 with fail
 rw[←hv0,←hgt,←hgr,←hgc,←hgm]
 clear hv0 hgm hgc hgr hgt
 have h1:=h.keep0 f0
 have f1:Fr D.s w v0:=di f0
 clear h f0
 have yp:=pc.pc
 have u3:c.pc.tmod 4=0:=Int.tmod_eq_zero_of_dvd (by omega)
 have u1:decide (c.pc<0)=false:=decide_eq_false (by omega)
 have u2:decide (65535<c.pc)=false:=decide_eq_false (by omega)
 obtain ⟨m0,m1,m2⟩:v0.cell? ⟨gm,0,none⟩=some (π (some ⟨D.p,0,none⟩))∧v0.cell? ⟨gm,1,none⟩=some (π (some ⟨D.t,0,none⟩))∧v0.cell? ⟨gm,2,none⟩=some (gu D.v):=⟨pm.cell 0,pm.cell 1,pm.cell 2⟩
 go_wp2_with (refine bh rfl 30 _ rfl gc rfl (cpA c) _ (cq pc) Tryz.underlying30 rfl (bk _) ?_)
 refine(HSp v0).mono ?_
 rintro e v1 ⟨rfl,fs⟩
 have HS1:=pm.lt
 clear HSp m0 m1 m2 yp
 replace pm:=(pm.keep fs (fun h=>h)).alloc (ω #[U κ vm,U κ sd,U κ fi,U κ se] 63)
 replace pc:=(pc.keep fs (fun h=>h)).alloc (ω #[U κ vm,U κ sd,U κ fi,U κ se] 63)
 replace pr:=(pr.keep fs (fun h=>h)).alloc (ω #[U κ vm,U κ sd,U κ fi,U κ se] 63)
 replace pt:=(pt.keep fs (fun h=>h)).alloc (ω #[U κ vm,U κ sd,U κ fi,U κ se] 63)
 replace h1:=(h1.keep0 fs).alloc (ω #[U κ vm,U κ sd,U κ fi,U κ se] 63)
 replace f1:=(f1.trans (di fs)).alloc (ω #[U κ vm,U κ sd,U κ fi,U κ se] 63)
 have ps:=ba v1 #[U κ vm,U κ sd,U κ fi,U κ se] 63
 have hgs:Hid (w.heap.size≤v1.heap.size):=(show _≤_ by have:=HS1;have:=fs.size;have:=HG.out;omega)
 clear HS1
 clear fs
 go_upto_region 4 with fail
 obtain ⟨v2,hv2⟩:∃ v2,v2=v1.alloc (ω #[U κ vm,U κ sd,U κ fi,U κ se] 63):=⟨_,rfl⟩
 rw[←hv2] at pm pc pr pt ps h1 f1 ⊢
 clear hv2
 obtain ⟨gs,hgs'⟩:∃ g,g=v1.heap.size:=⟨_,rfl⟩
 rw[←hgs'] at ps hgs ⊢
 clear hgs'
 obtain ⟨m0,m1,m2⟩:v2.cell? ⟨gm,0,none⟩=some (π (some ⟨D.p,0,none⟩))∧v2.cell? ⟨gm,1,none⟩=some (π (some ⟨D.t,0,none⟩))∧v2.cell? ⟨gm,2,none⟩=some (gu D.v):=⟨pm.cell 0,pm.cell 1,pm.cell 2⟩
 obtain ⟨s0,s1,s2,s3⟩:v2.cell? ⟨gs,0,none⟩=some (U κ vm)∧v2.cell? ⟨gs,1,none⟩=some (U κ sd)∧v2.cell? ⟨gs,2,none⟩=some (U κ fi)∧v2.cell? ⟨gs,3,none⟩=some (U κ se):=⟨ps.cell 0,ps.cell 1,ps.cell 2,ps.cell 3⟩
 have yp:=pc.pc
 go_wp2_with fail
 refine(HR v2 h1).mono ?_
 rintro e v3 ⟨rfl,f3,h3⟩
 clear HR h1 m0 m1 m2 s0 s1 s2 s3 yp
 have ng:∀ g,w.heap.size≤g→¬ D.s g:=fun g hg e=>absurd (HL.out _ (Or.inl e)) (by omega)
 replace pm:=pm.keep f3 (ng _ (by have:=HG.out;have:=hgs.out;omega))
 replace pc:=pc.keep f3 (ng _ (by have:=HG.out;have:=hgs.out;omega))
 replace ps:=ps.keep f3 (ng _ (by have:=HG.out;have:=hgs.out;omega))
 replace pr:=pr.keep f3 (ng _ (by have:=HG.out;have:=hgs.out;omega))
 replace pt:=pt.keep f3 (ng _ (by have:=HG.out;have:=hgs.out;omega))
 replace f3:=f1.trans f3
 clear f1 ng
 have t2:(F.k != 0)=false:=by simp[hk]
 go_upto_region 7 with fail
 replace pm:=pm.alloc (ω #[U κ 0,U κ F.s,U κ F.l,β F.wk,U κ F.p] 50)
 replace pc:=pc.alloc (ω #[U κ 0,U κ F.s,U κ F.l,β F.wk,U κ F.p] 50)
 replace ps:=ps.alloc (ω #[U κ 0,U κ F.s,U κ F.l,β F.wk,U κ F.p] 50)
 replace pr:=pr.alloc (ω #[U κ 0,U κ F.s,U κ F.l,β F.wk,U κ F.p] 50)
 replace pt:=pt.alloc (ω #[U κ 0,U κ F.s,U κ F.l,β F.wk,U κ F.p] 50)
 have h4:=h3.alloc (ω #[U κ 0,U κ F.s,U κ F.l,β F.wk,U κ F.p] 50)
 have f4:=f3.alloc (ω #[U κ 0,U κ F.s,U κ F.l,β F.wk,U κ F.p] 50)
 clear h3 f3
 obtain ⟨v4,hv4⟩:∃ v4,v4=v3.alloc (ω #[U κ 0,U κ F.s,U κ F.l,β F.wk,U κ F.p] 50):=⟨_,rfl⟩
 rw[←hv4] at pm pc ps pr pt h4 f4 ⊢
 clear hv4
 obtain ⟨gf,hgf⟩:∃ g,g=v3.heap.size:=⟨_,rfl⟩
 rw[←hgf] at ⊢
 clear hgf
 have m0:v4.cell? ⟨gm,0,none⟩=some (π (some ⟨D.p,0,none⟩)):=pm.cell 0
 go_wp2_with fail
 refine(HLd v4 h4).mono ?_
 rintro e v ⟨rfl,rfl⟩
 clear HLd m0
 go_wp2_with fail
 refine(HDc v).mono ?_
 rintro e v6 ⟨rfl,f6⟩
 have HGC0:gc<v6.heap.size:=(pc.keep f6 (fun h=>h)).lt
 clear HDc
 replace pm:=(pm.keep f6 (fun h=>h)).alloc (ω #[U κ (o:Int),U κ (a:Int),U κ (b:Int),U κ (d:Int),U κ (i:Int)] 69)
 replace pc:=(pc.keep f6 (fun h=>h)).alloc (ω #[U κ (o:Int),U κ (a:Int),U κ (b:Int),U κ (d:Int),U κ (i:Int)] 69)
 replace ps:=(ps.keep f6 (fun h=>h)).alloc (ω #[U κ (o:Int),U κ (a:Int),U κ (b:Int),U κ (d:Int),U κ (i:Int)] 69)
 replace pr:=(pr.keep f6 (fun h=>h)).alloc (ω #[U κ (o:Int),U κ (a:Int),U κ (b:Int),U κ (d:Int),U κ (i:Int)] 69)
 replace pt:=(pt.keep f6 (fun h=>h)).alloc (ω #[U κ (o:Int),U κ (a:Int),U κ (b:Int),U κ (d:Int),U κ (i:Int)] 69)
 have h7:=(h4.keep0 f6).alloc (ω #[U κ (o:Int),U κ (a:Int),U κ (b:Int),U κ (d:Int),U κ (i:Int)] 69)
 have f7:=(f4.trans (di f6)).alloc (ω #[U κ (o:Int),U κ (a:Int),U κ (b:Int),U κ (d:Int),U κ (i:Int)] 69)
 have pi:=ba v6 #[U κ (o:Int),U κ (a:Int),U κ (b:Int),U κ (d:Int),U κ (i:Int)] 69
 have HGI:Hid (w.heap.size≤v6.heap.size):=(f4.trans (di (D:=D) f6)).size
 clear h4 f4 f6
 go_upto_region 9 with fail
 obtain ⟨v7,hv7⟩:∃ v7,v7=v6.alloc (ω #[U κ (o:Int),U κ (a:Int),U κ (b:Int),U κ (d:Int),U κ (i:Int)] 69):=⟨_,rfl⟩
 rw[←hv7] at pm pc ps pr pt pi h7 f7 ⊢
 clear hv7
 obtain ⟨gi,hgi⟩:∃ g,g=v6.heap.size:=⟨_,rfl⟩
 rw[←hgi] at pi HGI HGC0 ⊢
 clear hgi
 have HGC:Hid (gc<gi):=(show gc<gi from HGC0)
 obtain ⟨m0,m1,m2⟩:v7.cell? ⟨gm,0,none⟩=some (π (some ⟨D.p,0,none⟩))∧v7.cell? ⟨gm,1,none⟩=some (π (some ⟨D.t,0,none⟩))∧v7.cell? ⟨gm,2,none⟩=some (gu D.v):=⟨pm.cell 0,pm.cell 1,pm.cell 2⟩
 obtain ⟨s0,s1,s2,s3⟩:v7.cell? ⟨gs,0,none⟩=some (U κ vm)∧v7.cell? ⟨gs,1,none⟩=some (U κ sd)∧v7.cell? ⟨gs,2,none⟩=some (U κ fi)∧v7.cell? ⟨gs,3,none⟩=some (U κ se):=⟨ps.cell 0,ps.cell 1,ps.cell 2,ps.cell 3⟩
 obtain ⟨x0,x1,x2,x3,x4⟩:=bl pi
 have hg:isG o=false:=by unfold isG;simp;omega
 have d6:decide ((o:Int)≤6)=true:=decide_eq_true (by omega)
 go_wp2_with fail
 refine(mv v7 o).mono ?_
 rintro e v7 ⟨rfl,rfl⟩
 rw[hg]
 have ia:0≤(a:Int)∧(a:Int)<16:=by omega
 have ib:0≤(b:Int)∧(b:Int)<16:=by omega
 have id':0≤(d:Int)∧(d:Int)<16:=by omega
 go_upto_region 12 with fail
 clear m0 m1 m2 s0 s1 s2 s3 x0 x1 x2 x3 x4
 have yb:v7.drew.cell? ⟨gc,b,none⟩=some (U μ ((c.r b:Nat):Int)):=pc.drew.rg hb
 have yd:v7.drew.cell? ⟨gc,d,none⟩=some (U μ ((c.r d:Nat):Int)):=pc.drew.rg hd2
 have n2:¬ at' gc gi:=fun e=>by have e':gi=gc:=e;have:=HGC.out;omega
 refine wp_region_held (S:=fun w'=>Row w' gi #[U κ (o:Int),U κ (a:Int),U κ (b:Int),U κ (d:Int),U κ (i:Int)] 69) (by kernel_rfl) ?_
 change wpAnyH _ _ _ _ _ _ _ _ (World.drew _)
 refine tkQ 0 (v:=?_) rfl (by kernel_rfl) (fun _ _ _ h=>h) (fun w hS=>?_) pi.drew ?_
 rotate_left
 ·go_simp
  try with_reducible rfl
 show wpAnyH _ _ _ _ _ _ _ (Act.put _ (some 92) _) _
 simp only[Act.put,sA,sB,sC]
 refine tkQ 1 (v:=?_) rfl (by kernel_rfl) (fun _ _ _ h=>h) (fun w hS=>?_) pi.drew ?_
 rotate_left
 ·obtain ⟨x0,x1,x2,x3,x4⟩:=bl hS;go_simp
  try with_reducible rfl
 show wpAnyH _ _ _ _ _ _ _ (Act.put _ (some 93) _) _
 simp only[Act.put,sA,sB,sC]
 refine tkQ 2 (v:=?_) rfl (by kernel_rfl) (fun _ _ _ h=>h) (fun w hS=>?_) pi.drew ?_
 rotate_left
 ·obtain ⟨x0,x1,x2,x3,x4⟩:=bl hS;go_simp
  try with_reducible rfl
 show wpAnyH _ _ _ _ _ _ _ (Act.put _ (some 94) _) _
 simp only[Act.put,sA,sB,sC]
 refine tkQ 3 (v:=?_) rfl (by kernel_rfl) (fun _ _ _ h=>h) (fun w hS=>?_) pi.drew ?_
 rotate_left
 ·go_simp
  try with_reducible rfl
 show wpAnyH _ _ _ _ _ _ _ (Act.put _ (some 95) _) _
 simp only[Act.put,sA,sB,sC]
 refine tkQ 4 (v:=?_) rfl (by kernel_rfl) (fun _ _ _ h=>h) (fun w hS=>?_) pi.drew ?_
 rotate_left
 ·obtain ⟨x0,x1,x2,x3,x4⟩:=bl hS;go_simp
  try with_reducible rfl
 show wpAnyH _ _ _ _ _ _ _ (Act.put _ (some 96) _) _
 simp only[Act.put,sA,sB,sC]
 refine tkQ 5 (v:=?_) rfl (by kernel_rfl) (fun _ _ _ h=>h) (fun w hS=>?_) pi.drew ?_
 rotate_left
 ·go_simp
  try with_reducible rfl
 show wpAnyH _ _ _ _ _ _ _ (Act.put _ (some 97) _) _
 simp only[Act.put,sA,sB,sC]
 refine tkQ 6 (v:=?_) rfl (by kernel_rfl) (fun _ _ _ h=>h) (fun w hS=>?_) pi.drew ?_
 rotate_left
 ·go_simp
  try with_reducible rfl
 show wpAnyH _ _ _ _ _ _ _ (Act.put _ (some 98) _) _
 simp only[Act.put,sA,sB,sC]
 refine tkQ 8 (v:=?_) rfl (by kernel_rfl) (fun _ _ _ h=>h) (fun w hS=>?_) pi.drew ?_
 rotate_left
 ·go_simp
  try with_reducible rfl
 show wpAnyH _ _ _ _ _ _ _ (Act.put _ (some 100) _) _
 simp only[Act.put,sA,sB,sC]
 refine tkQ 9 (v:=?_) rfl (by kernel_rfl) (fun _ _ _ h=>h) (fun w hS=>?_) pi.drew ?_
 rotate_left
 ·obtain ⟨x0,x1,x2,x3,x4⟩:=bl hS;go_simp
  try with_reducible rfl
 show wpAnyH _ _ _ _ _ _ _ (Act.put _ (some 101) _) _
 simp only[Act.put,sA,sB,sC]
 refine tkQ 10 (v:=?_) rfl (by kernel_rfl) (fun _ _ _ h=>h) (fun w hS=>?_) pi.drew ?_
 rotate_left
 ·go_simp
  try with_reducible rfl
 show wpAnyH _ _ _ _ _ _ _ (Act.put _ (some 102) _) _
 simp only[Act.put,sA,sB,sC]
 refine tkQ 11 (v:=?_) rfl (by kernel_rfl) (fun _ _ _ h=>h) (fun w hS=>?_) pi.drew ?_
 rotate_left
 ·go_simp
  try with_reducible rfl
 show wpAnyH _ _ _ _ _ _ _ (Act.put _ (some 103) _) _
 simp only[Act.put,sA,sB,sC]
 refine tkQ 14 (v:=?_) rfl (by kernel_rfl) (fun _ _ _ h=>h) (fun w hS=>?_) pi.drew ?_
 rotate_left
 ·go_simp
  try with_reducible rfl
 show wpAnyH _ _ _ _ _ _ _ (Act.put _ (some 106) _) _
 simp only[Act.put,sA,sB,sC]
 refine wpAnyH_all (rs:=[7,12]) (by kernel_rfl) (by simp) ?_
 intro i hi
 have hi':i=7∨i=12:=by simpa using hi
 clear hi
 rcases hi' with rfl | rfl
 ·refine wpOp_at (v:=U μ ((c.r b:Nat):Int)) rfl (by kernel_rfl) ?_ ⟨pi.drew,?_⟩
  ·go_simp
   try with_reducible rfl
  show wpAnyH _ _ _ _ _ _ _ (Act.put _ (some 99) _) _
  simp only[Act.put,sA,sB,sC]
  refine wpAnyH_all (rs:=[12]) (by kernel_rfl) (by simp) ?_
  intro i hi
  obtain rfl:i=12:=by simpa using hi
  clear hi
  refine wpOp_at (v:=U μ ((c.r d:Nat):Int)) rfl (by kernel_rfl) ?_ ⟨pi.drew,?_⟩
  ·go_simp
   try with_reducible rfl
  show wpAnyH _ _ _ _ _ _ _ (Act.put _ (some 104) _) _
  simp only[Act.put,sA,sB,sC]
  refine wpAnyH_all (rs:=[13]) (by kernel_rfl) (by simp) ?_
  intro i hi
  obtain rfl:i=13:=by simpa using hi
  clear hi
  refine wpOp_call (f:=33) (args:=#[.agg #[U κ (o:Int),U κ (a:Int),U κ (b:Int),U κ (d:Int),U κ (i:Int)],U μ ((c.r b:Nat):Int),U μ ((c.r d:Nat):Int)]) rfl (by kernel_rfl) ?_ ?_
  ·go_simp
   try with_reducible rfl
  refine(HK _).mono ?_
  rintro e v8 ⟨rfl,f8⟩
  replace f8:=ks f8
  replace pi:=pi.keep f8 (fun h=>h)
  replace pc:=pc.keep f8 (fun h=>h)
  have yn:v8.cell? ⟨gc,a,none⟩=some (U μ ((c.r a:Nat):Int)):=pc.rg ha
  have yz:=pc.frozen a
  refine ⟨_,rfl,pi,?_⟩
  show wpAnyH _ _ _ _ _ _ _ (Act.put _ (some 105) _) _
  simp only[Act.put,sA,sB,sC]
  refine tkQ 15 (v:=?_) rfl (by kernel_rfl) (fun _ _ _ h=>h) (fun w hS=>?_) pi ?_
  rotate_left
  ·go_simp
   try with_reducible rfl
  show wpAnyH _ _ _ _ _ _ _ (Act.put _ (some 107) _) _
  simp only[Act.put,sA,sB,sC]
  refine wpAnyH_all (rs:=[16]) (by kernel_rfl) (by simp) ?_
  intro i hi
  obtain rfl:i=16:=by simpa using hi
  clear hi
  refine wpOp_skip (w2:=v8.setCell ⟨gc,a,none⟩ (U μ ((K:Nat):Int))) rfl (by kernel_rfl) ?_ ⟨pi.keep (m7 _ gc a _) n2,?_⟩
  ·go_simp
   try with_reducible rfl
  show wpAnyH _ _ _ _ _ _ _ _ _
  refine wpAnyH_done (by kernel_rfl) ?_ _
  clear n2 yb yd
  have h8:=h7.keep0 f8
  replace pr:=pr.keep f8 (fun h=>h)
  replace pt:=pt.keep f8 (fun h=>h)
  replace f8:=f7.trans (di f8)
  have g1:=m7 v8 gc a (U μ ((K:Nat):Int))
  replace pr:=pr.keep g1 (fun e=>by have e':gr=gc:=e;have:=HG.out;omega)
  replace pt:=pt.keep g1 (fun e=>by have e':gt=gc:=e;have:=HG.out;omega)
  have h9:=h8.past g1 (fun k hk=>by have:=HL.out k hk;have:=HG.out;omega)
  have f9:=f8.newerS g1 (by have:=HG.out;omega)
  replace pc:=pc.setRg ha K
  clear h8 f8 g1 yn yz pi pm ps HK f7 h7
  obtain ⟨v9,hv9⟩:∃ v9,v9=v8.setCell ⟨gc,a,none⟩ (U μ ((K:Nat):Int)):=⟨_,rfl⟩
  rw[←hv9] at pr pt pc h9 f9 ⊢
  clear hv9
  have yp:v9.cell? ⟨gc,16,none⟩=some (U κ c.pc):=pc.pc
  have e4:IntKind.i64.wrap (c.pc+4)=c.pc+4:=by rw[IntKind.wrap_i64];omega
  go_wp2_with (refine bh rfl 30 _ rfl gc rfl (cpA (c.setR a K)) _ (cq pc) Tryz.underlying30 rfl (bk _) ?_)
  refine(cn _ (c.setR a K) (c.pc+4) (by omega)).mono ?_
  rintro e v8 ⟨rfl,f8⟩
  have h8:=h9.keep0 f8
  replace pr:=pr.keep f8 (fun h=>h)
  replace pt:=pt.keep f8 (fun h=>h)
  replace f8:=f9.trans (di f8)
  clear h9 f9 yp e4 pc
  have nrt:¬ at' gr gt:=fun e=>by have e':gt=gr:=e;have:=HG.out;omega
  have ntr:¬ at' gt gr:=fun e=>by have e':gr=gt:=e;have:=HG.out;omega
  have pt1:=pt.keep (bb v8 gr (cpA ((c.setR a K).setP ((c.pc+4)%65536)))) nrt
  have qt:=pt1.setRow (A:=#[U κ 0,U κ 0,U κ 0,U κ 0,U κ 0,U κ 0,β false,U κ 0])
  have qr:=(pr.setRow (A:=cpA ((c.setR a K).setP ((c.pc+4)%65536)))).keep (bb _ gt #[U κ 0,U κ 0,U κ 0,U κ 0,U κ 0,U κ 0,β false,U κ 0]) ntr
  have HE:Hid (Fr D.s w ((v8.setRow gr (cpA ((c.setR a K).setP ((c.pc+4)%65536)))).setRow gt #[U κ 0,U κ 0,U κ 0,U κ 0,U κ 0,U κ 0,β false,U κ 0])∧IsMd ((v8.setRow gr (cpA ((c.setR a K).setP ((c.pc+4)%65536)))).setRow gt #[U κ 0,U κ 0,U κ 0,U κ 0,U κ 0,U κ 0,β false,U κ 0]) D nf _):=⟨bp (bp f8 (g:=gr) (by have:=HG.out;omega) _) (g:=gt) (by have:=HG.out;omega) _,(h8.past (bb _ gr _) (fun k hk=>by have:=HL.out k hk;have:=HG.out;omega)).past (bb _ gt _) (fun k hk=>by have:=HL.out k hk;have:=HG.out;omega)⟩
  go_wp2_with (first | refine wpList_store_row rfl 30 _ _ rfl gr (cpA ((c.setR a K).setP ((c.pc+4)%65536))) rfl rfl 30 _ pr (bk _) (bj _).symm (bw _) ?_ | refine wpList_store_row rfl 52 _ _ rfl gt #[U κ 0,U κ 0,U κ 0,U κ 0,U κ 0,U κ 0,β false,U κ 0] rfl rfl 52 _ pt1 bn rfl (by simp[Value.oneCell']) ?_)
  refine bodyPost_ret (d8 rfl rfl rfl qr (bj _) qt rfl) rfl ?_
  exact ⟨rfl,HE.out⟩
 ·refine wpOp_at (v:=U μ ((c.r d:Nat):Int)) rfl (by kernel_rfl) ?_ ⟨pi.drew,?_⟩
  ·go_simp
   try with_reducible rfl
  show wpAnyH _ _ _ _ _ _ _ (Act.put _ (some 104) _) _
  simp only[Act.put,sA,sB,sC]
  refine wpAnyH_all (rs:=[7]) (by kernel_rfl) (by simp) ?_
  intro i hi
  obtain rfl:i=7:=by simpa using hi
  clear hi
  refine wpOp_at (v:=U μ ((c.r b:Nat):Int)) rfl (by kernel_rfl) ?_ ⟨pi.drew,?_⟩
  ·go_simp
   try with_reducible rfl
  show wpAnyH _ _ _ _ _ _ _ (Act.put _ (some 99) _) _
  simp only[Act.put,sA,sB,sC]
  refine wpAnyH_all (rs:=[13]) (by kernel_rfl) (by simp) ?_
  intro i hi
  obtain rfl:i=13:=by simpa using hi
  clear hi
  refine wpOp_call (f:=33) (args:=#[.agg #[U κ (o:Int),U κ (a:Int),U κ (b:Int),U κ (d:Int),U κ (i:Int)],U μ ((c.r b:Nat):Int),U μ ((c.r d:Nat):Int)]) rfl (by kernel_rfl) ?_ ?_
  ·go_simp
   try with_reducible rfl
  refine(HK _).mono ?_
  rintro e v8 ⟨rfl,f8⟩
  replace f8:=ks f8
  replace pi:=pi.keep f8 (fun h=>h)
  replace pc:=pc.keep f8 (fun h=>h)
  have yn:v8.cell? ⟨gc,a,none⟩=some (U μ ((c.r a:Nat):Int)):=pc.rg ha
  have yz:=pc.frozen a
  refine ⟨_,rfl,pi,?_⟩
  show wpAnyH _ _ _ _ _ _ _ (Act.put _ (some 105) _) _
  simp only[Act.put,sA,sB,sC]
  refine tkQ 15 (v:=?_) rfl (by kernel_rfl) (fun _ _ _ h=>h) (fun w hS=>?_) pi ?_
  rotate_left
  ·go_simp
   try with_reducible rfl
  show wpAnyH _ _ _ _ _ _ _ (Act.put _ (some 107) _) _
  simp only[Act.put,sA,sB,sC]
  refine wpAnyH_all (rs:=[16]) (by kernel_rfl) (by simp) ?_
  intro i hi
  obtain rfl:i=16:=by simpa using hi
  clear hi
  refine wpOp_skip (w2:=v8.setCell ⟨gc,a,none⟩ (U μ ((K:Nat):Int))) rfl (by kernel_rfl) ?_ ⟨pi.keep (m7 _ gc a _) n2,?_⟩
  ·go_simp
   try with_reducible rfl
  show wpAnyH _ _ _ _ _ _ _ _ _
  refine wpAnyH_done (by kernel_rfl) ?_ _
  clear n2 yb yd
  have h8:=h7.keep0 f8
  replace pr:=pr.keep f8 (fun h=>h)
  replace pt:=pt.keep f8 (fun h=>h)
  replace f8:=f7.trans (di f8)
  have g1:=m7 v8 gc a (U μ ((K:Nat):Int))
  replace pr:=pr.keep g1 (fun e=>by have e':gr=gc:=e;have:=HG.out;omega)
  replace pt:=pt.keep g1 (fun e=>by have e':gt=gc:=e;have:=HG.out;omega)
  have h9:=h8.past g1 (fun k hk=>by have:=HL.out k hk;have:=HG.out;omega)
  have f9:=f8.newerS g1 (by have:=HG.out;omega)
  replace pc:=pc.setRg ha K
  clear h8 f8 g1 yn yz pi pm ps HK f7 h7
  obtain ⟨v9,hv9⟩:∃ v9,v9=v8.setCell ⟨gc,a,none⟩ (U μ ((K:Nat):Int)):=⟨_,rfl⟩
  rw[←hv9] at pr pt pc h9 f9 ⊢
  clear hv9
  have yp:v9.cell? ⟨gc,16,none⟩=some (U κ c.pc):=pc.pc
  have e4:IntKind.i64.wrap (c.pc+4)=c.pc+4:=by rw[IntKind.wrap_i64];omega
  go_wp2_with (refine bh rfl 30 _ rfl gc rfl (cpA (c.setR a K)) _ (cq pc) Tryz.underlying30 rfl (bk _) ?_)
  refine(cn _ (c.setR a K) (c.pc+4) (by omega)).mono ?_
  rintro e v8 ⟨rfl,f8⟩
  have h8:=h9.keep0 f8
  replace pr:=pr.keep f8 (fun h=>h)
  replace pt:=pt.keep f8 (fun h=>h)
  replace f8:=f9.trans (di f8)
  clear h9 f9 yp e4 pc
  have nrt:¬ at' gr gt:=fun e=>by have e':gt=gr:=e;have:=HG.out;omega
  have ntr:¬ at' gt gr:=fun e=>by have e':gr=gt:=e;have:=HG.out;omega
  have pt1:=pt.keep (bb v8 gr (cpA ((c.setR a K).setP ((c.pc+4)%65536)))) nrt
  have qt:=pt1.setRow (A:=#[U κ 0,U κ 0,U κ 0,U κ 0,U κ 0,U κ 0,β false,U κ 0])
  have qr:=(pr.setRow (A:=cpA ((c.setR a K).setP ((c.pc+4)%65536)))).keep (bb _ gt #[U κ 0,U κ 0,U κ 0,U κ 0,U κ 0,U κ 0,β false,U κ 0]) ntr
  have HE:Hid (Fr D.s w ((v8.setRow gr (cpA ((c.setR a K).setP ((c.pc+4)%65536)))).setRow gt #[U κ 0,U κ 0,U κ 0,U κ 0,U κ 0,U κ 0,β false,U κ 0])∧IsMd ((v8.setRow gr (cpA ((c.setR a K).setP ((c.pc+4)%65536)))).setRow gt #[U κ 0,U κ 0,U κ 0,U κ 0,U κ 0,U κ 0,β false,U κ 0]) D nf _):=⟨bp (bp f8 (g:=gr) (by have:=HG.out;omega) _) (g:=gt) (by have:=HG.out;omega) _,(h8.past (bb _ gr _) (fun k hk=>by have:=HL.out k hk;have:=HG.out;omega)).past (bb _ gt _) (fun k hk=>by have:=HL.out k hk;have:=HG.out;omega)⟩
  go_wp2_with (first | refine wpList_store_row rfl 30 _ _ rfl gr (cpA ((c.setR a K).setP ((c.pc+4)%65536))) rfl rfl 30 _ pr (bk _) (bj _).symm (bw _) ?_ | refine wpList_store_row rfl 52 _ _ rfl gt #[U κ 0,U κ 0,U κ 0,U κ 0,U κ 0,U κ 0,β false,U κ 0] rfl rfl 52 _ pt1 bn rfl (by simp[Value.oneCell']) ?_)
  refine bodyPost_ret (d8 rfl rfl rfl qr (bj _) qt rfl) rfl ?_
  exact ⟨rfl,HE.out⟩
end Go.Proofs.YtibhbjbpodlpiaaGreat
