/-
  Contracts over the translation. No statement is proved here.
-/
import Derived.Laws.EntriesVeiled
import Derived.Test.YtibhbjbpodlpiaaGreatQJO
set_option maxRecDepth 100000
set_option maxHeartbeats 8000000
namespace Go.Proofs.YtibhbjbpodlpiaaGreat
open Go.RowKit
open Go.Value renaming int → U, bool → β, pointer → π, tuple → τ
open Go.IntKind renaming i64 → κ, u32 → μ
open Go.Obj renaming cells → ω
open Go.Ending renaming returned → ρ
open Go.Proofs.Tryz renaming prog → pQ
open List renaming setIfInBounds_toArray → sA, set_cons_succ → sB, set_cons_zero → sC
def fX (nf:Nat) (M:Mc) (X:Wk):Wk:={ X with wd:=(j5 M.bs (rcP M nf X.vm X.sd X.fi X.se X.pc 4) 4 nf).toNat }
def dX (X:Wk):Wk:={ X with op:=(dOp (X.wd:Int)).toNat,a:=(dA (X.wd:Int)).toNat,b:=(dB (X.wd:Int)).toNat,c:=(dC (X.wd:Int)).toNat,imm:=(dI (X.wd:Int)).toNat }
def doM (nf:Nat) (M:Mc) (X:Wk):Mc:=rcM M nf X.vm X.sd X.fi X.se X.pc 4 X.ix
def doR (nf:Nat) (M:Mc) (X:Wk):Mc×Wk×Tr:=
 if (rcF M nf X.vm X.sd X.fi X.se X.pc 4).k≠0 then(doM nf M X,X,⟨1,0,X.pc,rcF M nf X.vm X.sd X.fi X.se X.pc 4⟩)
 else if dp ((fX nf M X).wd:Int)=false then(doM nf M X,fX nf M X,⟨8,(fX nf M X).wd,X.pc,f0⟩)
 else if isG (dX (fX nf M X)).op=true∧M.V=none then(doM nf M X,dX (fX nf M X),⟨8,(fX nf M X).wd,X.pc,f0⟩)
 else ji nf (doM nf M X) (dX (fX nf M X))
theorem yl {x:Nat} (h:dp (x:Int)=true):∃ o a b c i:Nat,dOp (x:Int)=o∧dA (x:Int)=a∧dB (x:Int)=b∧dC (x:Int)=c∧dI (x:Int)=i∧1≤o∧o≤25∧a<16∧b<16∧c<16∧i<65536:=by
 have h':=h
 unfold dp at h'
 simp only[Bool.and_eq_true,bne_iff_ne,ne_eq] at h'
 have hr:=kf_range h'.1
 have h1:dOp (x:Int)=qo x:=by unfold dOp;rw[if_pos h]
 have h2:dA (x:Int)=qa x:=by unfold dA;rw[if_pos h]
 have h3:dB (x:Int)=qb x:=by unfold dB;rw[if_pos h]
 have h4:dC (x:Int)=qc x:=by unfold dC;rw[if_pos h]
 have h5:dI (x:Int)=qi x:=by unfold dI;rw[if_pos h]
 have g2:0≤qa x∧qa x<16:=by unfold qa;split <;> omega
 have g3:0≤qb x∧qb x<16:=by unfold qb;split <;> omega
 have g4:0≤qc x∧qc x<16:=by unfold qc;split <;> omega
 have g5:0≤qi x∧qi x<65536:=by unfold qi;split <;> omega
 exact ⟨(qo x).toNat,(qa x).toNat,(qb x).toNat,(qc x).toNat,(qi x).toNat,by omega,by omega,by omega,by omega,by omega,by omega,by omega,by omega,by omega,by omega,by omega⟩
theorem Jb.word {w w':World} {B:Bm} {nf bx:Nat} {M:Mc} {X:Wk} (h:Jb w B nf bx M X) (f:Fr (at' bx) w w') {x:Nat} (hx:IsW w' bx { X with wd:=x }) (hl:x<4294967296):Jb w' B nf bx M { X with wd:=x }:=
 {m:=h.m.keep f (fun e=>h.f1 (Eq.symm e)) (fun e=>h.f2 (Eq.symm e)) (fun e=>h.f3 (Eq.symm e)) (fun k hk e=>h.f4 (by have e':k=bx:=e;rw[←e'];exact hk)),x:=hx,p:=h.p,t:=h.t,v:=h.v,f1:=h.f1,f2:=h.f2,f3:=h.f3,f4:=h.f4,ok:=h.ok,a:=h.a,b:=h.b,c:=h.c,i:=h.i,wd:=hl,pc:=h.pc }
theorem Jb.ins {w w':World} {B:Bm} {nf bx:Nat} {M:Mc} {X:Wk} (h:Jb w B nf bx M X) (f:Fr (at' bx) w w') {o a b c i:Nat} (hx:IsW w' bx { X with op:=o,a:=a,b:=b,c:=c,imm:=i }) (ha:a<16) (hb:b<16) (hc:c<16) (hi:i<65536):Jb w' B nf bx M { X with op:=o,a:=a,b:=b,c:=c,imm:=i }:=
 {m:=h.m.keep f (fun e=>h.f1 (Eq.symm e)) (fun e=>h.f2 (Eq.symm e)) (fun e=>h.f3 (Eq.symm e)) (fun k hk e=>h.f4 (by have e':k=bx:=e;rw[←e'];exact hk)),x:=hx,p:=h.p,t:=h.t,v:=h.v,f1:=h.f1,f2:=h.f2,f3:=h.f3,f4:=h.f4,ok:=h.ok,a:=ha,b:=hb,c:=hc,i:=hi,wd:=h.wd,pc:=h.pc }
theorem fr_ins {w:World} (bx:Nat) (v0 v1 v2 v3 v4:Value):Fr (at' bx) w (((((w.setCell ⟨bx,10,none⟩ v0).setCell ⟨bx,11,none⟩ v1).setCell ⟨bx,12,none⟩ v2).setCell ⟨bx,13,none⟩ v3).setCell ⟨bx,14,none⟩ v4):=
 cy w bx 14 _ (cy w bx 13 _ (cy w bx 12 _ (cy w bx 11 _ (cy w bx 10 _ (Fr.refl _ w)))))
theorem don_end_drew {w w1:World} {B:Bm} {nf bx:Nat} {M:Mc} {X:Wk} {g:Nat} (f:Fr (B.x bx) w w1) (h:Jb w1 B nf bx M X) (hg:w.heap.size≤g) (hB:∀ k,B.y bx k→k<w.heap.size) (t:Tr) (v0 v1 v2 v3 v4 v5 v6 v7:Value) (ht:#[v0,v1,v2,v3,v4,v5,v6,v7]=trL t):Don w B nf bx M X t (ρ (.agg #[v0,v1,v2,v3,v4,v5,v6,v7])) (((((((((w1.setCell ⟨g,0,none⟩ v0).setCell ⟨g,1,none⟩ v1).setCell ⟨g,2,none⟩ v2).setCell ⟨g,3,none⟩ v3).setCell ⟨g,4,none⟩ v4).setCell ⟨g,5,none⟩ v5).setCell ⟨g,6,none⟩ v6).setCell ⟨g,7,none⟩ v7)).drew:=by
 obtain ⟨a,b,c⟩:=je f h hg hB t v0 v1 v2 v3 v4 v5 v6 v7 ht
 exact ⟨a,b.drew,c.drew⟩
theorem nx_of {B:Bm} {bx N:Nat} (sep:∀ k,B.y bx k→k<N∨N+30≤k):∀ k,N≤k→k<N+30→¬ B.x bx k:=fun k h1 h2 e=>by have:=sep k (Or.inl e);omega
theorem do_any (w:World) (N:Nat) (B:Bm) (nf bx:Nat) (M:Mc) (X:Wk) (h:Ops w N) (J:Jb w B nf bx M X) {n:Nat} (hm:M.few n) (hn:n+1<999990) (sep:∀ k,B.y bx k→k<N∨N+30≤k) :
  Calls pQ 57 #[π (some ⟨bx,0,none⟩),.slice (some ⟨N+29,0,none⟩) 26 26] w (Don w B nf bx (doR nf M X).1 (doR nf M X).2.1 (doR nf M X).2.2):=by
 have hR:=fun w1 (h1:Jb w1 B nf bx M X)=>wreach_any w1 B nf bx M X X.pc 4 h1 hm (by omega) h1.pc
 have hpr:=rcP_range hm nf X.vm X.sd X.fi X.se X.pc 4
 have hlv:=lu M.bs (rcP M nf X.vm X.sd X.fi X.se X.pc 4) 4 nf (by omega)
 obtain ⟨x,hx⟩:∃ x:Nat,j5 M.bs (rcP M nf X.vm X.sd X.fi X.se X.pc 4) 4 nf=x:=⟨(j5 M.bs (rcP M nf X.vm X.sd X.fi X.se X.pc 4) 4 nf).toNat,by omega⟩
 have hxl:x<4294967296:=by omega
 have HL:∀ w1,Jb w1 B nf bx (doM nf M X) X→Calls pQ 106 #[π (some ⟨B.p,0,none⟩),U κ (rcP M nf X.vm X.sd X.fi X.se X.pc 4),U κ 4] w1 fun e w'=>e=ρ (τ #[U μ (x:Int),U κ (dk (rcP M nf X.vm X.sd X.fi X.se X.pc 4) 4 nf)])∧w'=w1:=fun w1 h1=>by
  have:=load_any w1 B.p B.bf nf M.bs (rcP M nf X.vm X.sd X.fi X.se X.pc 4) 4 h1.m.ram (by omega)
  rw[hx] at this
  exact this
 have hfX:fX nf M X={ X with wd:=x }:=by unfold fX;rw[hx,Int.toNat_natCast]
 have hfew:(doM nf M X).few (n+1):=p6 hm _ _ _ _ _ _ _ _
 have HD:Hid (doR nf M X=if (rcF M nf X.vm X.sd X.fi X.se X.pc 4).k≠0 then(doM nf M X,X,⟨1,0,X.pc,rcF M nf X.vm X.sd X.fi X.se X.pc 4⟩)
   else if dp (x:Int)=false then(doM nf M X,{ X with wd:=x },⟨8,x,X.pc,f0⟩)
   else if isG (dX { X with wd:=x }).op=true∧M.V=none then(doM nf M X,dX { X with wd:=x },⟨8,x,X.pc,f0⟩)
   else ji nf (doM nf M X) (dX { X with wd:=x })):=by
  show _=_
  unfold doR
  rw[hfX]
 have hMV:(doM nf M X).V=M.V:=rfl
 obtain ⟨R,hRR⟩:∃ R,doR nf M X=R:=⟨_,rfl⟩
 obtain ⟨M1,hM1⟩:∃ q,doM nf M X=q:=⟨_,rfl⟩
 obtain ⟨F,hF⟩:∃ q,rcF M nf X.vm X.sd X.fi X.se X.pc 4=q:=⟨_,rfl⟩
 obtain ⟨P,hP⟩:∃ q,rcP M nf X.vm X.sd X.fi X.se X.pc 4=q:=⟨_,rfl⟩
 obtain ⟨E,hE⟩:∃ q,dk (rcP M nf X.vm X.sd X.fi X.se X.pc 4) 4 nf=q:=⟨_,rfl⟩
 replace hR:∀ w1,Jb w1 B nf bx M X→Calls pQ 105 #[π (some ⟨bx,0,none⟩),U κ X.pc,U κ 4] w1 (Rch' w1 B nf bx M1 X P F):=fun w1 h1=>by have:=hR w1 h1;rw[hF,hP] at this;rw[←hM1];exact this
 rw[hE] at HL
 rw[hM1,hP] at HL
 rw[hRR,hM1,hF] at HD
 rw[hM1] at hfew hMV
 rw[hRR]
 have HF:Hid (M1.few (n+1)):=hfew
 clear hRR hM1 hF hP hE hm hlv hx hfX hfew hpr
 have f1:=(Fr.refl bg w).alloc (ω #[U κ 0,U κ 0,U κ 0,U κ 0,U κ 0,U κ 0,β false,U κ 0] 52)
 have h1:=J.alloc (ω #[U κ 0,U κ 0,U κ 0,U κ 0,U κ 0,U κ 0,β false,U κ 0] 52)
 have r1:=ba w #[U κ 0,U κ 0,U κ 0,U κ 0,U κ 0,U κ 0,β false,U κ 0] 52
 have HO:Hid (Ops (w.alloc (ω #[U κ 0,U κ 0,U κ 0,U κ 0,U κ 0,U κ 0,β false,U κ 0] 52)) N):=h.keep f1 (fun _ _ _ h=>h)
 have L:Hid (∀ k,B.y bx k→k<w.heap.size):=J.lty
 have HS:Hid (∀ k,B.y bx k→k<N∨N+30≤k):=sep
 have hNl:Hid (N+30≤w.heap.size):=h.lt
 have c8:=h1.x.k8
 clear h J sep
 go_enter Tryz.func57,Tryz.ntmps57
 go_wp2_with fail
 refine(hR _ h1).mono ?_
 rintro e v1 ⟨rfl,g1,j1⟩
 clear h1 hR c8
 replace r1:=r1.keep g1 (fun e=>absurd (L.out _ (Or.inl e)) (by omega))
 replace HO:Hid (Ops v1 N):=HO.out.keep g1 (nx_of HS.out)
 have f2:=(ro (B:=B) (bx:=bx) f1).trans g1
 clear f1 g1
 replace j1:=j1.alloc (ω #[U κ F.k,U κ F.s,U κ F.l,β F.wk,U κ F.p] 50)
 have r9:=ba v1 #[U κ F.k,U κ F.s,U κ F.l,β F.wk,U κ F.p] 50
 replace r1:=r1.alloc (ω #[U κ F.k,U κ F.s,U κ F.l,β F.wk,U κ F.p] 50)
 replace f2:=f2.alloc (ω #[U κ F.k,U κ F.s,U κ F.l,β F.wk,U κ F.p] 50)
 replace HO:Hid (Ops (v1.alloc (ω #[U κ F.k,U κ F.s,U κ F.l,β F.wk,U κ F.p] 50)) N):=HO.out.keep ((Fr.refl bg v1).alloc _) (fun _ _ _ h=>h)
 go_upto_region 2 with fail
 obtain ⟨v2,hv2⟩:∃ v2,v2=v1.alloc (ω #[U κ F.k,U κ F.s,U κ F.l,β F.wk,U κ F.p] 50):=⟨_,rfl⟩
 rw[←hv2] at j1 r9 r1 f2 HO ⊢
 clear hv2
 have HJ:Hid (Jb v2 B nf bx M1 X):=j1
 obtain ⟨y0,y1,y2,y3,y4⟩:=bl r9
 by_cases hk:F.k=0
 ·have t1:(F.k != 0)=false:=by simp[hk]
  have hD:=HD.out
  rw[if_neg (by simp[hk])] at hD
  clear HD hk
  have HD:Hid (R=if dp (x:Int)=false then(M1,{ X with wd:=x },⟨8,x,X.pc,f0⟩)
   else if isG (dX { X with wd:=x }).op=true∧M.V=none then(M1,dX { X with wd:=x },⟨8,x,X.pc,f0⟩)
   else ji nf M1 (dX { X with wd:=x })):=hD
  clear hD
  have c0:v2.cell? ⟨bx,0,none⟩=some (π (some ⟨B.p,0,none⟩)):=(ln j1.x j1.p j1.t).1
  clear j1
  go_wp2_with fail
  refine(HL _ HJ.out).mono ?_
  rintro e v ⟨rfl,he⟩
  have he':=he.symm
  subst he'
  clear y0 y1 y2 y3 y4 r9 c0 HL
  have c9:=HJ.out.x.k9
  have z9:=HJ.out.x.frozen 9
  go_upto_region 5 with fail
  clear c9 z9
  have q:=cy v2 bx 9 (U μ (x:Int)) (Fr.refl _ v2)
  have j2:=HJ.out.word q (HJ.out.x.setWd x) hxl
  replace r1:=r1.keep q (fun e=>absurd (L.out _ (Or.inl (Or.inr e))) (by omega))
  replace f2:=f2.trans (fr_x q)
  replace HO:=HO.out.keep (fr_x (B:=B) q) (nx_of HS.out)
  obtain ⟨v3,hv3⟩:∃ v3,v3=v2.setCell ⟨bx,9,none⟩ (U μ (x:Int)):=⟨_,rfl⟩
  rw[←hv3] at j2 r1 f2 HO ⊢
  clear hv3 q HJ
  have c9:v3.cell? ⟨bx,9,none⟩=some (U μ (x:Int)):=j2.x.k9
  have hdec:=fun w1=>i_dec_any x w1 hxl
  by_cases hd:dp (x:Int)=true
  ·obtain ⟨o,a,b,c,i,ho,ha,hb,hc,hi,o1,o25,a16,b16,c16,i16⟩:=yl hd
   have hde:dE (x:Int)=0:=by unfold dE;rw[if_pos hd]
   have hX2:dX { X with wd:=x }={ X with wd:=x,op:=o,a:=a,b:=b,c:=c,imm:=i }:=by unfold dX;simp only[ho,ha,hb,hc,hi,Int.toNat_natCast]
   rw[ho,ha,hb,hc,hi,hde] at hdec
   have hD:=HD.out
   rw[if_neg (by simp[hd]),hX2] at hD
   clear HD hd ho ha hb hc hi hde hX2
   have HD:Hid (R=if isG o=true∧M.V=none then(M1,{ X with wd:=x,op:=o,a:=a,b:=b,c:=c,imm:=i },⟨8,x,X.pc,f0⟩) else ji nf M1 { X with wd:=x,op:=o,a:=a,b:=b,c:=c,imm:=i }):=hD
   clear hD
   go_wp2_with fail
   refine(hdec _).mono ?_
   rintro e v4 ⟨rfl,g4⟩
   clear hdec c9
   have n7:Hid (v4.heap.size≠bx):=by have h4:=(r1.keep g4 (fun h=>h)).lt;have h5:=L.out bx (Or.inl (Or.inr rfl));exact(show _≠_ by omega)
   replace j2:=(j2.keep0 g4).alloc (ω #[U κ (o:Int),U κ (a:Int),U κ (b:Int),U κ (c:Int),U κ (i:Int)] 69)
   replace r1:=(r1.keep g4 (fun h=>h)).alloc (ω #[U κ (o:Int),U κ (a:Int),U κ (b:Int),U κ (c:Int),U κ (i:Int)] 69)
   replace f2:=(f2.trans (ro g4)).alloc (ω #[U κ (o:Int),U κ (a:Int),U κ (b:Int),U κ (c:Int),U κ (i:Int)] 69)
   replace HO:Hid (Ops (v4.alloc (ω #[U κ (o:Int),U κ (a:Int),U κ (b:Int),U κ (c:Int),U κ (i:Int)] 69)) N):=HO.keep (g4.alloc _) (fun _ _ _ h=>h)
   have r7:=ba v4 #[U κ (o:Int),U κ (a:Int),U κ (b:Int),U κ (c:Int),U κ (i:Int)] 69
   clear g4
   go_upto_region 6 with fail
   obtain ⟨v5,hv5⟩:∃ v5,v5=v4.alloc (ω #[U κ (o:Int),U κ (a:Int),U κ (b:Int),U κ (c:Int),U κ (i:Int)] 69):=⟨_,rfl⟩
   rw[←hv5] at j2 r1 f2 HO r7 ⊢
   clear hv5
   obtain ⟨y0,y1,y2,y3,y4⟩:=bl r7
   have HJ:Hid (Jb v5 B nf bx M1 { X with wd:=x }):=j2
   obtain ⟨u0,d0⟩:=j2.x.some_cell (i:=10) (by omega)
   obtain ⟨u1,d1⟩:=j2.x.some_cell (i:=11) (by omega)
   obtain ⟨u2,d2⟩:=j2.x.some_cell (i:=12) (by omega)
   obtain ⟨u3,d3⟩:=j2.x.some_cell (i:=13) (by omega)
   obtain ⟨u4,d4⟩:=j2.x.some_cell (i:=14) (by omega)
   have z0:=j2.x.frozen 10
   have z1:=j2.x.frozen 11
   have z2:=j2.x.frozen 12
   have z3:=j2.x.frozen 13
   have z4:=j2.x.frozen 14
   clear j2
   go_upto_region 9 with fail
   clear y0 y1 y2 y3 y4 d0 d1 d2 d3 d4 z0 z1 z2 z3 z4
   have q:=fr_ins (w:=v5) bx (U κ (o:Int)) (U κ (a:Int)) (U κ (b:Int)) (U κ (c:Int)) (U κ (i:Int))
   have j3:=HJ.out.ins q (HJ.out.x.setI o a b c i) a16 b16 c16 i16
   replace r1:=r1.keep q (fun e=>absurd (L.out _ (Or.inl (Or.inr e))) (by omega))
   replace r7:=r7.keep q n7.out
   replace f2:=f2.trans (fr_x q)
   replace HO:=HO.out.keep (fr_x (B:=B) q) (nx_of HS.out)
   obtain ⟨v6,hv6⟩:∃ v6,v6=((((v5.setCell ⟨bx,10,none⟩ (U κ (o:Int))).setCell ⟨bx,11,none⟩ (U κ (a:Int))).setCell ⟨bx,12,none⟩ (U κ (b:Int))).setCell ⟨bx,13,none⟩ (U κ (c:Int))).setCell ⟨bx,14,none⟩ (U κ (i:Int)):=⟨_,rfl⟩
   rw[←hv6] at j3 r1 r7 f2 HO ⊢
   clear hv6 q HJ n7
   have OA:=op_all v6 N B nf bx M1 _ HO j3 HF.out (by omega) HS.out o1 o25
   obtain ⟨fn,caps,ca,cb,hen,hC⟩:=OA
   have HO6:Hid (Ops v6 N):=HO
   replace ca:v6.cell? ⟨N+29,o*2,none⟩=some (β (isG o)):=ca
   replace cb:v6.cell? ⟨N+29,o*2+1,none⟩=some (.func (.func fn) #[] caps):=cb
   have y0:v6.cell? ⟨v4.heap.size,0,none⟩=some (U κ (o:Int)):=r7.cell 0
   have i1:0≤(o:Int)∧(o:Int)<26:=by omega
   clear HO hC
   obtain ⟨G,hG⟩:∃ G,isG o=G:=⟨_,rfl⟩
   rw[hG] at ca HD
   go_upto_region 10 with fail
   clear ca y0 i1 r7
   have q:=(Fr.refl bg v6).alloc (ω #[β G,.func (.func fn) #[] caps] 157)
   have r9:=ba v6 #[β G,.func (.func fn) #[] caps] 157
   have j4:=j3.keep0 q
   replace r1:=r1.keep q (fun h=>h)
   replace f2:=f2.trans (ro q)
   have HO7:=HO6.out.keep q (fun _ _ _ h=>h)
   replace cb:=cd q cb (fun h=>h)
   obtain ⟨v7,hv7⟩:∃ v7,v7=v6.alloc (ω #[β G,.func (.func fn) #[] caps] 157):=⟨_,rfl⟩
   rw[←hv7] at r9 j4 r1 f2 HO7 cb ⊢
   clear hv7 q HO6 j3
   have OA:=op_all v7 N B nf bx M1 _ HO7 j4 HF.out (by omega) HS.out o1 o25
   obtain ⟨fn',caps',_,cb',_,hC⟩:=OA
   replace cb':v7.cell? ⟨N+29,o*2+1,none⟩=some (.func (.func fn') #[] caps'):=cb'
   obtain ⟨rfl,rfl⟩:fn=fn'∧caps=caps':=by
    have e:=cb.symm.trans cb'
    simp only[Option.some.injEq,Value.func.injEq,Fn.func.injEq,true_and] at e
    exact e
   replace hC:(G=true→∃ b S,B.v=some b∧M1.V=some S)→Calls pQ fn (#[π (some ⟨bx,0,none⟩)] ++ caps) v7 (Don v7 B nf bx (ji nf M1 { X with wd:=x,op:=o,a:=a,b:=b,c:=c,imm:=i }).1 (ji nf M1 { X with wd:=x,op:=o,a:=a,b:=b,c:=c,imm:=i }).2.1 (ji nf M1 { X with wd:=x,op:=o,a:=a,b:=b,c:=c,imm:=i }).2.2):=by rw[←hG];exact hC
   clear cb cb' HO7
   have d0:v7.cell? ⟨v6.heap.size,0,none⟩=some (β G):=r9.cell 0
   have d1:v7.cell? ⟨v6.heap.size,1,none⟩=some (.func (.func fn) #[] caps):=r9.cell 1
   have hvg:=j4.m.vg
   cases G with
   | false =>
    have hD:=HD.out
    rw[if_neg (by simp)] at hD
    rw[←hD] at hC
    clear HD hD
    obtain ⟨Me,Xe,Te⟩:=R
    have hC7:=hC (by simp)
    replace hC7:Calls pQ fn (#[π (some ⟨bx,0,none⟩)] ++ caps) v7 (Don v7 B nf bx Me Xe Te):=hC7
    clear hC j4 hvg
    go_wp2_with fail
    refine hC7.mono ?_
    rintro e v8 ⟨rfl,g8,j8⟩
    unfold trL
    replace r1:=r1.keep g8 (fun e=>absurd (L.out _ (Or.inl e)) (by omega))
    have f3:=f2.trans g8
    have HK:Hid (Jb v8 B nf bx Me Xe):=j8
    clear g8 j8 hC7
    obtain ⟨x0,x1,x2,x3,x4,x5,x6,x7⟩:=jd r1
    obtain ⟨z0,z1,z2,z3,z4,z5,z6,z7⟩:=jb r1
    go_wp2_with fail
    refine bodyPost_ret (gl rfl rfl (dz r1 _ _ _ _ _ _ _ _) rfl) rfl ?_
    exact je f3 HK.out (Nat.le_refl _) L.out Te _ _ _ _ _ _ _ _ rfl
   | true =>
    cases hb:B.v with
    | none =>
     rw[hb] at hvg
     have hV:M1.V=none:=by
      cases hV:M1.V with
      | none=>rfl
      | some S=>rw[hV] at hvg;exact hvg.elim
     have hD:=HD.out
     rw[if_pos ⟨rfl,hMV.symm.trans hV⟩] at hD
     subst hD
     clear HD hC hvg
     have c2:=j4.k2n hb
     go_wp2_with fail
     refine(undef_any _ B nf bx M1 _ j4).mono ?_
     rintro e v8 ⟨rfl,g8,j8⟩
     unfold trL f0
     replace r1:=r1.keep g8 (fun e=>absurd (L.out _ (Or.inl e)) (by omega))
     have f3:=f2.trans g8
     have HK:Hid (Jb v8 B nf bx M1 _):=j8
     clear g8 j8
     obtain ⟨x0,x1,x2,x3,x4,x5,x6,x7⟩:=jd r1
     obtain ⟨z0,z1,z2,z3,z4,z5,z6,z7⟩:=jb r1
     go_wp2_with fail
     refine bodyPost_ret (gl rfl rfl (dz r1 _ _ _ _ _ _ _ _) rfl) rfl ?_
     exact je f3 HK.out (Nat.le_refl _) L.out ⟨8,x,X.pc,f0⟩ _ _ _ _ _ _ _ _ rfl
    | some b =>
     rw[hb] at hvg
     obtain ⟨S,hV⟩:∃ S,M1.V=some S:=by
      cases hV:M1.V with
      | none=>rw[hV] at hvg;exact hvg.elim
      | some S=>exact ⟨S,rfl⟩
     have hD:=HD.out
     rw[if_neg (by rw[←hMV,hV];simp)] at hD
     rw[←hD] at hC
     clear HD hD
     obtain ⟨Me,Xe,Te⟩:=R
     have hC7:=hC (fun _=>⟨b,S,hb,hV⟩)
     replace hC7:Calls pQ fn (#[π (some ⟨bx,0,none⟩)] ++ caps) v7 (Don v7 B nf bx Me Xe Te):=hC7
     have c2:=j4.k2v hb
     clear hC j4 hvg
     go_wp2_with fail
     refine hC7.mono ?_
     rintro e v8 ⟨rfl,g8,j8⟩
     unfold trL
     replace r1:=r1.keep g8 (fun e=>absurd (L.out _ (Or.inl e)) (by omega))
     have f3:=f2.trans g8
     have HK:Hid (Jb v8 B nf bx Me Xe):=j8
     clear g8 j8 hC7
     obtain ⟨x0,x1,x2,x3,x4,x5,x6,x7⟩:=jd r1
     obtain ⟨z0,z1,z2,z3,z4,z5,z6,z7⟩:=jb r1
     go_wp2_with fail
     refine bodyPost_ret (gl rfl rfl (dz r1 _ _ _ _ _ _ _ _) rfl) rfl ?_
     exact je f3 HK.out (Nat.le_refl _) L.out Te _ _ _ _ _ _ _ _ rfl
  ·have hde:dE (x:Int)=50:=by unfold dE;rw[if_neg hd]
   have hdo:dOp (x:Int)=0∧dA (x:Int)=0∧dB (x:Int)=0∧dC (x:Int)=0∧dI (x:Int)=0:=by unfold dOp dA dB dC dI;refine ⟨?_,?_,?_,?_,?_⟩ <;> exact if_neg hd
   rw[hdo.1,hdo.2.1,hdo.2.2.1,hdo.2.2.2.1,hdo.2.2.2.2,hde] at hdec
   have hD:=HD.out
   rw[if_pos (by simpa using hd)] at hD
   subst hD
   clear HD hd hdo hde
   go_wp2_with fail
   refine(hdec _).mono ?_
   rintro e v4 ⟨rfl,g4⟩
   clear hdec c9
   replace j2:=(j2.keep0 g4).alloc (ω #[U κ 0,U κ 0,U κ 0,U κ 0,U κ 0] 69)
   replace r1:=(r1.keep g4 (fun h=>h)).alloc (ω #[U κ 0,U κ 0,U κ 0,U κ 0,U κ 0] 69)
   replace f2:=(f2.trans (ro g4)).alloc (ω #[U κ 0,U κ 0,U κ 0,U κ 0,U κ 0] 69)
   clear g4
   go_upto_region 6 with fail
   obtain ⟨v5,hv5⟩:∃ v5,v5=v4.alloc (ω #[U κ 0,U κ 0,U κ 0,U κ 0,U κ 0] 69):=⟨_,rfl⟩
   rw[←hv5] at j2 r1 f2 ⊢
   clear hv5
   go_wp2_with fail
   refine(undef_any _ B nf bx M1 _ j2).mono ?_
   rintro e v8 ⟨rfl,g8,j8⟩
   unfold trL f0
   replace r1:=r1.keep g8 (fun e=>absurd (L.out _ (Or.inl e)) (by omega))
   have f3:=f2.trans g8
   have HK:Hid (Jb v8 B nf bx M1 _):=j8
   clear g8 j8
   obtain ⟨x0,x1,x2,x3,x4,x5,x6,x7⟩:=jd r1
   obtain ⟨z0,z1,z2,z3,z4,z5,z6,z7⟩:=jb r1
   go_wp2_with fail
   refine bodyPost_ret (gl rfl rfl (dz r1 _ _ _ _ _ _ _ _) rfl) rfl ?_
   exact je f3 HK.out (Nat.le_refl _) L.out ⟨8,x,X.pc,f0⟩ _ _ _ _ _ _ _ _ rfl
 ·have t1:(F.k != 0)=true:=by simp[hk]
  have hD:=HD.out
  rw[if_pos hk] at hD
  subst hD
  clear HD hk HL
  have c8:=j1.x.k8
  clear j1
  obtain ⟨x0,x1,x2,x3,x4,x5,x6,x7⟩:=jd r1
  obtain ⟨z0,z1,z2,z3,z4,z5,z6,z7⟩:=jb r1
  go_wp2_with fail
  go_region
  all_goals go_wp2_with fail
  all_goals refine bodyPost_ret (gl rfl rfl (dz r1 _ _ _ _ _ _ _ _).drew rfl) rfl ?_
  all_goals exact don_end_drew f2 HJ.out (Nat.le_refl _) L.out ⟨1,0,X.pc,F⟩ _ _ _ _ _ _ _ _ rfl
theorem kz:(Tryz.prog.info? 30).map (·.size)=some 25:=by kernel_rfl
def cpA (c:Cp):Array Value:=(cpL c).toArray
theorem bj (c:Cp):(cpA c).size=25:=by rw[cpA,List.size_toArray,p8]
theorem bw (c:Cp):(cpA c).all (·.oneCell')=true:=all_oneCell_toArray (cpL_one c)
theorem ly (c:Cp) (i:Nat):(cpA c)[i]? = (cpL c)[i]?:=by simp[cpA]
def zc:Cp:=⟨fun _=>0,0,fun _=>0⟩
theorem zc_ok:zc.Ok:=⟨fun _=>(by decide:(0:Nat)<4294967296),fun _=>(by decide:(0:Nat)<4294967296)⟩
theorem my (w:World):Sem.run pQ (zeroValue 30) w=.ok (.agg (cpA zc)) w:=by kernel_rfl
theorem Row.setRow {w:World} {g:Nat} {old A:Array Value} {t:TypeId} (h:Row w g old t):Row (w.setRow g A) g A t:=setRow_heap w g old A t _ h
theorem bb (w:World) (g:Nat) (A:Array Value):Fr (at' g) w (w.setRow g A):=⟨rfl,rfl,rfl,by simp,fun k _ hn=>setRow_other w g k A (fun e=>hn e)⟩
theorem dq {W:World} {n:Nat} {cs:Array Value} {t:TypeId} (h:W.heap.size=n):Row (W.alloc (.cells cs t)) n cs t:=by subst h;exact ba _ _ _
def spF (v:Bool) (c:Cp):Int:=if v=true∧2147483648≤c.s 0 then((c.s 0%1024:Nat):Int) else -1
def spA (v:Bool) (c:Cp):Int:=if v=true∧2147483648≤c.s 0 then((c.s 1%16:Nat):Int) else 0
theorem and31 (n:Nat) (h:n<4294967296):n &&& 2 ^ 31=if 2147483648≤n then 2 ^ 31 else 0:=by
 have h4:n.testBit 31=decide (2147483648≤n):=by
  rw[Nat.testBit_eq_decide_div_mod_eq]
  congr 1
  exact propext ⟨fun h=>by omega,fun h=>by omega⟩
 apply Nat.eq_of_testBit_eq
 intro i
 rw[Nat.testBit_and,Nat.testBit_two_pow]
 by_cases e:31=i
 ·subst e
  rw[h4]
  by_cases q:2147483648≤n
  ·rw[if_pos q,Nat.testBit_two_pow];simp[q]
  ·rw[if_neg q];simp[q]
 ·split
  ·rw[Nat.testBit_two_pow];simp[e]
  ·simp[e]
theorem bit31 (n:Nat) (h:n<4294967296):bits .and .u32 (n:Int) 2147483648=if 2147483648≤n then 2147483648 else 0:=by
 have e:bits .and .u32 (n:Int) 2147483648=((n &&& 2147483648:Nat):Int):=u32_and_nat n 2147483648 h (by decide)
 have e2:=and31 n h
 rw[show(2:Nat) ^ 31=2147483648 by decide] at e2
 rw[e,e2]
 split <;> rfl
theorem and1023 (n:Nat) (h:n<4294967296):bits .and .u32 (n:Int) 1023=((n%1024:Nat):Int):=by
 have:=bits_mask .u32 32 (by decide) (fun n g0 g1=>by rw[IntKind.wrap_u32];omega) 10 (by decide) (n:Int) (by omega) (by omega)
 rw[show(2:Int) ^ 10-1=1023 by decide,show(2:Int) ^ 10=1024 by decide] at this
 omega
theorem and15 (n:Nat) (h:n<4294967296):bits .and .u32 (n:Int) 15=((n%16:Nat):Int):=by
 have:=bits_mask .u32 32 (by decide) (fun n g0 g1=>by rw[IntKind.wrap_u32];omega) 4 (by decide) (n:Int) (by omega) (by omega)
 rw[show(2:Int) ^ 4-1=15 by decide,show(2:Int) ^ 4=16 by decide] at this
 omega
theorem size_space:(Tryz.prog.info? 63).map (·.size)=some 4:=by kernel_rfl
theorem na {fn:Func} {p:Tmp} {tmps:Array Value} {g:Nat} {cs:Array Value} {w:World} (h:fn.results=#[.cell p 63]) (hp:tmps.getD p undef=π (some ⟨g,0,none⟩)) (hr:Row w g cs 63) (hs:cs.size=4) :
  (results fn tmps).run pQ w=.ok (.agg cs) w:=
 results_cell_row h tmps w g _ cs (0,0) _ hp hr Tryz.underlying63 rfl (by rw[hs];exact size_space)
theorem space_any (w:World) (p t:Nat) (v:Option Nat) (c:Cp) (hc:c.Ok) (vm se:Int) :
  Calls pQ 14 #[.agg #[π (some ⟨p,0,none⟩),π (some ⟨t,0,none⟩),gu v],.agg (cpA c),U κ vm,U κ se] w fun e w'=>e=ρ (.agg #[U κ vm,U κ (spA v.isSome c),U κ (spF v.isSome c),U κ se])∧Fr bg w w':=by
 obtain ⟨A,hA⟩:∃ A,cpA c=A:=⟨_,rfl⟩
 have hs:=bj c
 have h1:=bw c
 have g0:(cpA c)[17]? = some (U μ ((c.s 0:Nat):Int)):=by rw[ly];exact yo c (i:=0) (by omega)
 have g1:(cpA c)[18]? = some (U μ ((c.s 1:Nat):Int)):=by rw[ly];exact yo c (i:=1) (by omega)
 rw[hA] at hs h1 g0 g1 ⊢
 clear hA
 have q0:A[17]'(by omega)=U μ ((c.s 0:Nat):Int):=(Array.getElem?_eq_some_iff.1 g0).2
 have q1:A[18]'(by omega)=U μ ((c.s 1:Nat):Int):=(Array.getElem?_eq_some_iff.1 g1).2
 clear g0 g1
 have o0:=hc.s 0
 have o1:=hc.s 1
 have b1:=bit31 (c.s 0) o0
 have b2:=and1023 (c.s 0) o0
 have b3:=and15 (c.s 1) o1
 obtain ⟨y,hy⟩:∃ y:Nat,c.s 0%1024=y:=⟨_,rfl⟩
 obtain ⟨z,hz⟩:∃ z:Nat,c.s 1%16=z:=⟨_,rfl⟩
 have e1:IntKind.i64.wrap (y:Int)=(y:Int):=by rw[IntKind.wrap_i64];omega
 have e2:IntKind.i64.wrap (z:Int)=(z:Int):=by rw[IntKind.wrap_i64];omega
 unfold spA spF
 rw[hy] at b2 ⊢
 rw[hz] at b3 ⊢
 clear hy hz hc
 cases v with
 | none =>
  rw[if_neg (by simp),if_neg (by simp)]
  unfold gu
  go_enter Tryz.func14,Tryz.ntmps14
  go_wp2_with fail
  refine bodyPost_ret (na rfl rfl ((dq (by simp)).alloc _) rfl) rfl ?_
  exact ⟨rfl,((((Fr.refl _ w).alloc _).alloc _).alloc _).alloc _⟩
 | some b =>
  unfold gu
  by_cases hq:2147483648≤c.s 0
  ·rw[if_pos ⟨rfl,hq⟩,if_pos ⟨rfl,hq⟩]
   rw[if_pos hq] at b1
   clear hq
   go_enter Tryz.func14,Tryz.ntmps14
   go_wp2_with fail
   refine bodyPost_ret (na rfl rfl ((dq (by simp)).alloc _) rfl) rfl ?_
   exact ⟨rfl,((((Fr.refl _ w).alloc _).alloc _).alloc _).alloc _⟩
  ·rw[if_neg (fun h=>hq h.2),if_neg (fun h=>hq h.2)]
   rw[if_neg hq] at b1
   clear hq
   go_enter Tryz.func14,Tryz.ntmps14
   go_wp2_with fail
   refine bodyPost_ret (na rfl rfl ((dq (by simp)).alloc _) rfl) rfl ?_
   exact ⟨rfl,((((Fr.refl _ w).alloc _).alloc _).alloc _).alloc _⟩
theorem tkQ {P : Program} {ops : Array Oper} {Q : Exit → Act → World → Prop} {md : Region.Mode} {S : World → Prop} (i : Nat) {v : Value} {oi : Oper} {fuel : Nat} {listed : Array Bool} {a : Act} {w : World} (hi : ops[i]? = some oi) (hb : (Region.noSelect ops && (Region.free md ops listed i && ((Region.ready md ops listed).contains i && Region.wanted oi (yielded ops a.tmps)))) = true) (hQ : ∀ c a w, Q (.panic c) (a.put oi.dst v) w → Q (.panic c) a w) (hy : ∀ w, S w → (execOp a.eval oi).run P w = .ok (.value v) w) (hS : S w) (h : wpAnyH P md ops Q S fuel (listed.setIfInBounds i true) (a.put oi.dst v) w) : wpAnyH P md ops Q S (fuel + 1) listed a w := by
 simp only [Bool.and_eq_true] at hb
 exact wpAnyH_take hi hb.1 hb.2.1 hb.2.2.1 hQ (Or.inl ⟨hb.2.2.2, hy⟩) hS h
theorem ck {P:Program} {ops:Array Oper} {Q:Exit→Act→World→Prop} {i:Nat} {o:Oper} {K:Act→World→Prop} {a:Act} {w:World} (hi:ops[i]? = some o) (hw:Region.wanted o (yielded ops a.tmps)=true) (h:o.wp P a w K Q):wpOp P ops Q i K a w:=by
 unfold wpOp
 simp only[hi,hw,if_true]
 exact Or.inl h
theorem d8 {fn:Func} {p q:Tmp} {tmps:Array Value} {g g':Nat} {A cs:Array Value} {w:World} (h:fn.results=#[.cell p 30,.cell q 52]) (hp:tmps.getD p undef=π (some ⟨g,0,none⟩)) (hq:tmps.getD q undef=π (some ⟨g',0,none⟩)) (hr:Row w g A 30) (hs:A.size=25) (hr':Row w g' cs 52) (hs':cs.size=8) :
  (results fn tmps).run pQ w=.ok (τ #[.agg A,.agg cs]) w:=by
 have hl:(loadVar 30 ⟨g,0,none⟩).run pQ w=.ok (.agg A) w:=by
  have:=run_loadVar_mid (P:=pQ) w g 0 30 A.toList _ (fun j v hv=>by rw[Nat.zero_add,hr.cell];simpa using hv) Tryz.underlying30 rfl (by rw[Array.length_toList,hs];exact kz)
  simpa using this
 have hl':=xv hr' hs'
 have hp':tmps[p]?.getD undef=π (some ⟨g,0,none⟩):=by simpa using hp
 have hq':tmps[q]?.getD undef=π (some ⟨g',0,none⟩):=by simpa using hq
 simp only[results,h]
 simp[Result.andThen,hp',hq',asAddr,hl,hl']
def Cp.bad (c:Cp):Prop:=c.pc<0∨65535<c.pc∨c.pc%4≠0
instance (c:Cp):Decidable c.bad:=by unfold Cp.bad;infer_instance
theorem dc {w:World} {g:Nat} {c:Cp} {t:TypeId} (h:Row w g (cpA c) t):w.rangeAt g 0 (cpL c):=fun j v hv=>by rw[Nat.zero_add,h.cell,ly];exact hv
theorem dw (c:Cp):(Tryz.prog.info? 30).map (·.size)=some (cpL c).length:=by rw[p8];exact kz
theorem bk (c:Cp):(Tryz.prog.info? 30).map (·.size)=some (cpA c).size:=by rw[bj];exact kz
theorem ym {w:World} {g:Nat} {c:Cp} {t:TypeId} (h:Row w g (cpA c) t):w.cell? ⟨g,16,none⟩=some (U κ c.pc):=by rw[h.cell,ly];exact vq c
theorem bp {S:Nat→Prop} {w w':World} {g:Nat} (f:Fr S w w') (hg:w.heap.size≤g) (A:Array Value):Fr S w (w'.setRow g A):=f.newerS (bb w' g A) hg
theorem step_bad (w:World) (p t:Nat) (v:Option Nat) (c:Cp) (hb:c.bad) (l:Value) (vm se ix:Int) :
  Calls pQ 27 #[l,.agg #[π (some ⟨p,0,none⟩),π (some ⟨t,0,none⟩),gu v],.agg (cpA c),U κ vm,U κ se,U κ ix] w fun e w'=>e=ρ (τ #[.agg (cpA c),.agg (trL ⟨4,0,c.pc,f0⟩)])∧Fr bg w w':=by
 have hz:∀ w,Sem.run pQ (zeroValue 30) w=.ok (.agg (cpA zc)) w:=my
 obtain ⟨v0,hv0⟩:∃ v0,v0=(((w.alloc (ω #[π (some ⟨p,0,none⟩),π (some ⟨t,0,none⟩),gu v] 37)).alloc (ω (cpA c) 30)).alloc (ω (cpA zc) 30)).alloc (ω #[U κ 0,U κ 0,U κ 0,U κ 0,U κ 0,U κ 0,β false,U κ 0] 52):=⟨_,rfl⟩
 have f0:Fr bg w v0:=by rw[hv0];exact((((Fr.refl bg w).alloc _).alloc _).alloc _).alloc _
 have rM:Row v0 w.heap.size #[π (some ⟨p,0,none⟩),π (some ⟨t,0,none⟩),gu v] 37:=by rw[hv0];exact(((ba _ _ _).alloc _).alloc _).alloc _
 have rA:Row v0 (w.heap.size+1) (cpA c) 30:=by rw[hv0];exact((dq (by simp)).alloc _).alloc _
 have rZ:Row v0 (w.heap.size+1+1) (cpA zc) 30:=by rw[hv0];exact(dq (by simp)).alloc _
 have rT:Row v0 (w.heap.size+1+1+1) #[U κ 0,U κ 0,U κ 0,U κ 0,U κ 0,U κ 0,β false,U κ 0] 52:=by rw[hv0];exact dq (by simp)
 have hsz:Hid (v0.heap.size=w.heap.size+4):=by show _=_;rw[hv0];simp
 go_enter Tryz.func27,Tryz.ntmps27
 go_upto_region 1 with fail
 rw[←hv0]
 clear hv0 hz
 obtain ⟨gM,hgM⟩:∃ g,g=w.heap.size:=⟨_,rfl⟩
 obtain ⟨gA,hgA⟩:∃ g,g=w.heap.size+1:=⟨_,rfl⟩
 obtain ⟨gZ,hgZ⟩:∃ g,g=w.heap.size+1+1:=⟨_,rfl⟩
 obtain ⟨gT,hgT⟩:∃ g,g=w.heap.size+1+1+1:=⟨_,rfl⟩
 rw[←hgT] at rT ⊢
 rw[←hgZ] at rZ ⊢
 rw[←hgA] at rA ⊢
 rw[←hgM] at rM ⊢
 have HN:Hid (gM=w.heap.size∧gA=w.heap.size+1∧gZ=w.heap.size+2∧gT=w.heap.size+3):=by show _∧_;omega
 clear hgA hgZ hgT hgM
 have cp:=ym rA
 go_cut [29] from 16 to 28 (fun s wx=>s=β true∧wx=v0)
 case first =>
  have hcs:c.pc<0∨(¬ c.pc<0∧65535<c.pc)∨(¬ c.pc<0∧¬ 65535<c.pc∧c.pc%4≠0):=by unfold Cp.bad at hb;omega
  clear hb
  rcases hcs with hc | ⟨hc,hc2⟩ | ⟨hc,hc2,hc3⟩
  ·have u1:decide (c.pc<0)=true:=decide_eq_true hc
   go_wp2_with fail
   go_meet
   exact ⟨rfl,rfl⟩
  ·have u1:decide (c.pc<0)=false:=decide_eq_false hc
   have u2:decide (65535<c.pc)=true:=decide_eq_true hc2
   go_wp2_with fail
   go_meet
   exact ⟨rfl,rfl⟩
  ·have u1:decide (c.pc<0)=false:=decide_eq_false hc
   have u2:decide (65535<c.pc)=false:=decide_eq_false hc2
   have u3:c.pc.tmod 4=c.pc%4:=Int.tmod_eq_emod_of_nonneg (by omega)
   have u4:(c.pc%4 != 0)=true:=by simp[hc3]
   go_wp2_with fail
   go_meet
   exact ⟨rfl,rfl⟩
 case rest =>
  obtain ⟨rfl,hw⟩:=hcut
  have hw':=hw.symm
  subst hw'
  clear cp
  go_wp2_with fail
  have n1:¬ at' gZ gA:=fun e=>by have e':gA=gZ:=e;have:=HN.out;omega
  have n2:¬ at' gT gA:=fun e=>by have e':gA=gT:=e;have:=HN.out;omega
  have n3:¬ at' gZ gT:=fun e=>by have e':gT=gZ:=e;have:=HN.out;omega
  have n4:¬ at' gT gZ:=fun e=>by have e':gZ=gT:=e;have:=HN.out;omega
  have rA1:=rA.keep (bb v0 gZ (cpA c)) n1
  have rT1:=rT.keep (bb v0 gZ (cpA c)) n3
  have rZ1:Row (v0.setRow gZ (cpA c)) gZ (cpA c) 30:=rZ.setRow
  have rA3:=rA1.keep (bb _ gT #[U κ 4,U κ 0,U κ c.pc,U κ 0,U κ 0,U κ 0,β false,U κ 0]) n2
  have rT3:Row ((v0.setRow gZ (cpA c)).setRow gT #[U κ 4,U κ 0,U κ c.pc,U κ 0,U κ 0,U κ 0,β false,U κ 0]) gT #[U κ 4,U κ 0,U κ c.pc,U κ 0,U κ 0,U κ 0,β false,U κ 0] 52:=rT1.setRow
  have rZ3:=rZ1.keep (bb _ gT #[U κ 4,U κ 0,U κ c.pc,U κ 0,U κ 0,U κ 0,β false,U κ 0]) n4
  have f3:=bp (bp f0 (g:=gZ) (by have:=HN.out;omega) (cpA c)) (g:=gT) (by have:=HN.out;omega) #[U κ 4,U κ 0,U κ c.pc,U κ 0,U κ 0,U κ 0,β false,U κ 0]
  refine wp_region_held (S:=fun w'=>Row w' gA (cpA c) 30) (by kernel_rfl) ?_
  change wpAnyH _ _ _ _ _ _ _ _ (World.drew _)
  refine wpAnyH_take (i:=0) (v:=.agg (cpL c).toArray) rfl (by kernel_rfl) (by kernel_rfl) (by kernel_rfl) (fun _ _ _ h=>h) (yieldsIf_load_mid (by kernel_rfl) 30 _ rfl gA 0 rfl (cpL c) _ (fun _ h=>dc h) Tryz.underlying30 rfl (dw c)) rA.drew ?_
  show wpAnyH _ _ _ _ _ _ _ (Act.put _ (some 30) _) _
  simp only[Act.put,sA,sB,sC]
  refine tkQ 1 (v:=?_) rfl (by kernel_rfl) (fun _ _ _ h=>h) (fun w hS=>?_) rA.drew ?_
  rotate_left
  ·go_simp
   try with_reducible rfl
  show wpAnyH _ _ _ _ _ _ _ (Act.put _ (some 31) _) _
  simp only[Act.put,sA,sB,sC]
  refine tkQ 2 (v:=?_) rfl (by kernel_rfl) (fun _ _ _ h=>h) (fun w hS=>?_) rA.drew ?_
  rotate_left
  ·have cp:=ym hS;go_simp
   try with_reducible rfl
  show wpAnyH _ _ _ _ _ _ _ (Act.put _ (some 32) _) _
  simp only[Act.put,sA,sB,sC]
  refine tkQ 3 (v:=?_) rfl (by kernel_rfl) (fun _ _ _ h=>h) (fun w hS=>?_) rA.drew ?_
  rotate_left
  ·go_simp
   try with_reducible rfl
  show wpAnyH _ _ _ _ _ _ _ (Act.put _ (some 33) _) _
  simp only[Act.put,sA,sB,sC]
  refine wpAnyH_all (rs:=[4]) (by kernel_rfl) (by simp) ?_
  intro i hi
  obtain rfl:i=4:=by simpa using hi
  clear hi
  refine ck rfl (by kernel_rfl) ?_
  refine wp_store_row 30 _ _ rfl gZ (cpA c) rfl rfl 30 (cpA zc) rZ.drew (bk c) rfl (bw c) ?_
  refine ⟨rA1.drew,?_⟩
  show wpAnyH _ _ _ _ _ _ _ _ _
  refine wpAnyH_all (rs:=[5]) (by kernel_rfl) (by simp) ?_
  intro i hi
  obtain rfl:i=5:=by simpa using hi
  clear hi
  refine ck rfl (by kernel_rfl) ?_
  refine wp_store_row 52 _ _ rfl gT #[U κ 4,U κ 0,U κ c.pc,U κ 0,U κ 0,U κ 0,β false,U κ 0] rfl rfl 52 #[U κ 0,U κ 0,U κ 0,U κ 0,U κ 0,U κ 0,β false,U κ 0] rT1.drew bn rfl (by simp[Value.oneCell']) ?_
  refine ⟨rA3.drew,?_⟩
  show wpAnyH _ _ _ _ _ _ _ _ _
  refine wpAnyH_done (by kernel_rfl) ?_ _
  go_wp2_with fail
  refine bodyPost_ret (d8 rfl rfl rfl rZ3.drew (bj c) rT3.drew rfl) rfl ?_
  exact ⟨rfl,f3.drew⟩
end Go.Proofs.YtibhbjbpodlpiaaGreat
