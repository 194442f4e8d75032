/-
  Contracts over the translation. No statement is proved here.
-/
import Derived.Test.YtibhbjbpodlpiaaGreatQJM
set_option maxRecDepth 100000
set_option maxHeartbeats 8000000
namespace Go.Proofs.YtibhbjbpodlpiaaGreat
open Go.RowKit
open Go.Value renaming int → U, bool → β, pointer → π, tuple → τ
open Go.IntKind renaming i64 → κ, u32 → μ
open Go.Obj renaming cells → ω
open Go.Ending renaming returned → ρ
open Go.Proofs.Tryz renaming prog → pQ
theorem j0 {M:Mc} {n m:Nat} (h:M.few n) (hm:n≤m):M.few m:=⟨h.fo,h.mi,by have:=h.sum;omega,h.good,h.uniq⟩
theorem Jb.vgic {w w':World} {B:Bm} {nf bx:Nat} {M:Mc} {X:Wk} (h:Jb w B nf bx M X) {b:Bk} (hb:B.v=some b) {S:Vg} (q:Chg w b S w'):Jb w' B nf bx { M with V:=some S } X:=by
 have hg:∀ k,B.g k ↔ b.s k:=fun k=>by simp only[Bm.g,hb]
 exact { m:=⟨h.m.ram.keep q.1 (fun e=>h.m.e1 ((hg _).2 e)) (fun e=>h.m.e2 ((hg _).2 e)),h.m.tlb.keep q.1 (fun e=>h.m.e3 ((hg _).2 e)),by rw[hb];exact q.2,h.m.d1,h.m.d2,h.m.d3,h.m.e1,h.m.e2,h.m.e3⟩
         x:=h.x.keep q.1 (fun e=>h.f4 ((hg _).2 e)),p:=h.p,t:=h.t,v:=h.v,f1:=h.f1,f2:=h.f2,f3:=h.f3,f4:=h.f4,ok:=h.ok,a:=h.a,b:=h.b,c:=h.c,i:=h.i,wd:=h.wd,pc:=h.pc }
theorem fr_g {w w':World} {B:Bm} {bx:Nat} {b:Bk} (hb:B.v=some b) (f:Fr b.s w w'):Fr (B.x bx) w w':=f.mono (fun k _ h=>Or.inl (Or.inr (Or.inr (by simp only[Bm.g,hb];exact h))))
theorem Jb.isVg {w:World} {B:Bm} {nf bx:Nat} {M:Mc} {X:Wk} (h:Jb w B nf bx M X) {b:Bk} (hb:B.v=some b) {S:Vg} (hV:M.V=some S):IsVg w b S:=by
 have:=h.m.vg
 rw[hb,hV] at this
 exact this
theorem Jb.k2v {w:World} {B:Bm} {nf bx:Nat} {M:Mc} {X:Wk} (h:Jb w B nf bx M X) {b:Bk} (hb:B.v=some b):w.cell? ⟨bx,2,none⟩=some (π (some ⟨b.b,0,none⟩)):=by
 rw[h.x.k2,h.v,hb];rfl
theorem Jb.k2n {w:World} {B:Bm} {nf bx:Nat} {M:Mc} {X:Wk} (h:Jb w B nf bx M X) (hb:B.v=none):w.cell? ⟨bx,2,none⟩=some (π none):=by
 rw[h.x.k2,h.v,hb];rfl
theorem undef_any (w:World) (B:Bm) (nf bx:Nat) (M:Mc) (X:Wk) (h:Jb w B nf bx M X):Calls pQ 108 #[π (some ⟨bx,0,none⟩)] w (Don w B nf bx M X ⟨8,X.wd,X.pc,f0⟩):=by
 have hw:=h.wd
 have e1:IntKind.i64.wrap (X.wd:Int)=(X.wd:Int):=by rw[IntKind.wrap_i64];omega
 have f1:=(Fr.refl bg w).alloc (ω #[U κ 0,U κ 0,U κ 0,U κ 0,U κ 0,U κ 0,β false,U κ 0] 52)
 have h1:=h.alloc (ω #[U κ 0,U κ 0,U κ 0,U κ 0,U κ 0,U κ 0,β false,U κ 0] 52)
 have r1:=ba w #[U κ 0,U κ 0,U κ 0,U κ 0,U κ 0,U κ 0,β false,U κ 0] 52
 have c9:=h1.x.k9
 have L:Hid (∀ k,B.y bx k→k<w.heap.size):=h.lty
 clear h
 go_enter Tryz.func108,Tryz.ntmps108
 go_wp2_with fail
 refine(mo _ _ _ _ _ h1.x).mono ?_
 rintro e v ⟨rfl,fv⟩
 replace r1:=r1.keep fv (fun h=>h)
 have f2:=f1.trans fv
 have HJ:Hid (Jb v B nf bx M X):=h1.keep0 fv
 clear h1 fv f1 c9
 obtain ⟨x0,x1,x2,x3,x4,x5,x6,x7⟩:=jd r1
 obtain ⟨z0,z1,z2,z3,z4,z5,z6,z7⟩:=jb r1
 go_wp2_with fail
 refine bodyPost_ret (gl rfl rfl (dz r1 _ _ _ _ _ _ _ _) rfl) rfl ?_
 exact je (ro f2) HJ.out (Nat.le_refl _) L.out ⟨8,X.wd,X.pc,f0⟩ _ _ _ _ _ _ _ _ rfl
def rdX (X:Wk):Wk:=if (6:Int)<(X.imm:Int) then X else { X with z:=X.z.setR X.a (X.z.s X.imm) }
def rdT (X:Wk):Tr:=if (6:Int)<(X.imm:Int) then ⟨7,X.imm,X.pc,f0⟩ else t0
theorem rsys_any (w:World) (B:Bm) (nf bx:Nat) (M:Mc) (X:Wk) (h:Jb w B nf bx M X):Calls pQ 76 #[π (some ⟨bx,0,none⟩)] w (Don w B nf bx M (rdX X) (rdT X)):=by
 have f1:=(Fr.refl bg w).alloc (ω #[U κ 0,U κ 0,U κ 0,U κ 0,U κ 0,U κ 0,β false,U κ 0] 52)
 have h1:=h.alloc (ω #[U κ 0,U κ 0,U κ 0,U κ 0,U κ 0,U κ 0,β false,U κ 0] 52)
 have r1:=ba w #[U κ 0,U κ 0,U κ 0,U κ 0,U κ 0,U κ 0,β false,U κ 0] 52
 have c14:=h1.x.k14
 have L:Hid (∀ k,B.y bx k→k<w.heap.size):=h.lty
 clear h
 unfold rdX rdT
 by_cases hi:(6:Int)<(X.imm:Int)
 ·rw[if_pos hi,if_pos hi]
  have u1:decide ((6:Int)<(X.imm:Int))=true:=decide_eq_true hi
  go_enter Tryz.func76,Tryz.ntmps76
  go_wp2_with fail
  refine(mo _ _ _ _ _ h1.x).mono ?_
  rintro e v ⟨rfl,fv⟩
  replace r1:=r1.keep fv (fun h=>h)
  have f2:=f1.trans fv
  have HJ:Hid (Jb v B nf bx M X):=h1.keep0 fv
  clear h1 fv f1 c14
  obtain ⟨x0,x1,x2,x3,x4,x5,x6,x7⟩:=jd r1
  obtain ⟨z0,z1,z2,z3,z4,z5,z6,z7⟩:=jb r1
  go_wp2_with fail
  refine bodyPost_ret (gl rfl rfl (dz r1 _ _ _ _ _ _ _ _) rfl) rfl ?_
  exact je (ro f2) HJ.out (Nat.le_refl _) L.out ⟨7,X.imm,X.pc,f0⟩ _ _ _ _ _ _ _ _ rfl
 ·rw[if_neg hi,if_neg hi]
  have u1:decide ((6:Int)<(X.imm:Int))=false:=decide_eq_false hi
  have i1:0≤(X.imm:Int)∧(X.imm:Int)<8:=by omega
  have cs:=h1.x.sys (i:=X.imm) (by omega)
  have hsl:=h1.ok.s X.imm
  have HJ:Hid (Jb _ B nf bx M X):=h1
  clear hi
  go_enter Tryz.func76,Tryz.ntmps76
  go_wp2_with fail
  obtain ⟨v0,hv0⟩:∃ v0,v0=w.alloc (ω #[U κ 0,U κ 0,U κ 0,U κ 0,U κ 0,U κ 0,β false,U κ 0] 52):=⟨_,rfl⟩
  rw[←hv0] at c14 cs r1 f1 HJ ⊢
  clear hv0 h1
  have e1:v0.drew.cell? ⟨bx,14,none⟩=_:=c14
  have e2:v0.drew.cell? ⟨bx,32+X.imm,none⟩=_:=cs
  go_region_held3 (fun w'=>w'.cell? ⟨bx,14,none⟩=some (U κ (X.imm:Int))∧w'.cell? ⟨bx,32+X.imm,none⟩=some (U μ ((X.z.s X.imm:Nat):Int))) (first | with_reducible exact ⟨c14,cs⟩ | with_reducible exact ⟨e1,e2⟩ | with_reducible exact ⟨k1,k2⟩) (first
   | (go_at_call 110;refine(qj _ _ _ _ HJ.out.drew.x HJ.out.a).mono ?_;rintro e v ⟨⟨u,rfl⟩,fv,hx⟩;have k1:=hx.k14;have k2:v.cell? ⟨bx,32+X.imm,none⟩=some (U μ ((X.z.s X.imm:Nat):Int)):=hx.sys (i:=X.imm) (by omega);have h6:=HJ.out.drew.turn fv hx (HJ.out.ok.setR _ hsl)))
  all_goals have r6:=r1.drew.keep fv (fun e=>absurd (L.out _ (Or.inl (Or.inr e))) (by omega))
  all_goals have f7:=(ro (B:=B) (bx:=bx) f1.drew).trans (fr_x fv)
  all_goals have HK:Hid (Jb v B nf bx M { X with z:=X.z.setR X.a (X.z.s X.imm) }):=h6
  all_goals clear hx fv h6 k1 k2 e1 e2
  all_goals obtain ⟨x0,x1,x2,x3,x4,x5,x6,x7⟩:=jd r6
  all_goals obtain ⟨z0,z1,z2,z3,z4,z5,z6,z7⟩:=jb r6
  all_goals go_wp2_with fail
  all_goals refine bodyPost_ret (gl rfl rfl (dz r6 _ _ _ _ _ _ _ _) rfl) rfl ?_
  all_goals exact je f7 HK.out (Nat.le_refl _) L.out t0 _ _ _ _ _ _ _ _ rfl
theorem vk (S:Vg):0≤wi S∧wi S≤1023:=by
 unfold wi
 cases h:mw S with
 | none=>exact ⟨by decide,by decide⟩
 | some k =>
  have:=next_lt h
  exact ⟨Int.natCast_nonneg k,by show(k:Int)≤1023;omega⟩
theorem ackn_any (w:World) (B:Bm) (nf bx:Nat) (M:Mc) (X:Wk) (h:Jb w B nf bx M X) {b:Bk} (hb:B.v=some b) {S:Vg} (hV:M.V=some S):Calls pQ 79 #[π (some ⟨bx,0,none⟩)] w (Aft w B nf bx { M with V:=some (ackS S) } { X with z:=X.z.setR X.a (wi S).toNat }):=by
 have c2:=h.k2v hb
 have hA:=ack_any w b S (h.isVg hb hV)
 have hr:0≤wi S∧wi S≤1023:=vk _
 obtain ⟨y,hy⟩:∃ y:Nat,wi S=y:=⟨(wi S).toNat,by omega⟩
 rw[hy] at hA hr ⊢
 rw[Int.toNat_natCast]
 have e1:=m5 y (by omega)
 clear hy
 go_enter Tryz.func79,Tryz.ntmps79
 go_wp2_with fail
 refine hA.mono ?_
 rintro e v ⟨rfl,q⟩
 have h1:=h.vgic hb q
 have f1:=fr_g (bx:=bx) hb q.1
 clear h hA c2 q
 go_wp2_with fail
 refine(qj _ _ _ _ h1.x h1.a).mono ?_
 rintro e v1 ⟨⟨u,rfl⟩,f,hx⟩
 have h2:=h1.turn f hx (h1.ok.setR _ (by omega))
 go_wp2_with fail
 refine j9 rfl rfl fun u=>?_
 exact ⟨⟨u,rfl⟩,f1.trans (fr_x f),h2⟩
def fgM (M:Mc) (X:Wk):Mc:={ M with T:=ts (fun l=>l.v == X.vm && l.a == X.sd) M.T }
theorem forget1_any (w:World) (B:Bm) (nf bx:Nat) (M:Mc) (X:Wk) (h:Jb w B nf bx M X):Calls pQ 81 #[π (some ⟨bx,0,none⟩)] w (Aft w B nf bx (fgM M X) X):=by
 have hF:=flush_asid w.drew B.bt M.T M.fo M.mi X.vm X.sd h.drew.m.tlb
 have c1:w.cell? ⟨bx,1,none⟩=some (π (some ⟨B.bt,0,none⟩)):=(ln h.x h.p h.t).2.1
 have c3:=h.x.k3
 have c4:=h.x.k4
 have e1:w.drew.cell? ⟨bx,1,none⟩=_:=c1
 have e3:w.drew.cell? ⟨bx,3,none⟩=_:=c3
 have e4:w.drew.cell? ⟨bx,4,none⟩=_:=c4
 have HJ:Hid (Jb w B nf bx M X):=h
 clear h
 go_enter Tryz.func81,Tryz.ntmps81
 go_wp2_with fail
 go_region_held3 (fun w'=>w'.cell? ⟨bx,1,none⟩=some (π (some ⟨B.bt,0,none⟩))∧w'.cell? ⟨bx,3,none⟩=some (U κ X.vm)∧w'.cell? ⟨bx,4,none⟩=some (U κ X.sd)) (first | with_reducible exact ⟨c1,c3,c4⟩ | with_reducible exact ⟨e1,e3,e4⟩ | with_reducible exact ⟨k1,k3,k4⟩) (first
  | (go_at_call 124;refine hF.mono ?_;rintro e v ⟨rfl,fv,hT⟩;have k1:=cd fv e1 HJ.out.f3;have k3:=cd fv e3 HJ.out.f3;have k4:=cd fv e4 HJ.out.f3))
 all_goals go_wp2_with fail
 all_goals refine j9 rfl rfl fun u=>?_
 all_goals exact ⟨⟨u,rfl⟩,(ro (Fr.refl bg w).drew).trans (fr_t fv),HJ.out.drew.buf fv hT⟩
def wrX (X:Wk):Wk:=if (5:Int)<(X.imm:Int) then X else { X with z:=X.z.setS X.imm (X.z.r X.b) }
def wrT (X:Wk):Tr:=if (5:Int)<(X.imm:Int) then ⟨7,X.imm,X.pc,f0⟩ else t0
def wrM (M:Mc) (S:Vg) (X:Wk):Mc:=if (5:Int)<(X.imm:Int) then M else if (X.imm:Int)=2 then { M with V:=some (masS S ((min (X.z.r X.b) 256:Nat):Int)) } else M
theorem min_u (a b:Nat):(if (b:Int)<(a:Int) then(b:Int) else(a:Int))=((min a b:Nat):Int):=by split <;> omega
theorem wsys_bad (w:World) (B:Bm) (nf bx:Nat) (M:Mc) (X:Wk) (h:Jb w B nf bx M X) (hi:(5:Int)<(X.imm:Int)):Calls pQ 77 #[π (some ⟨bx,0,none⟩)] w (Don w B nf bx M X ⟨7,X.imm,X.pc,f0⟩):=by
 have f1:=(Fr.refl bg w).alloc (ω #[U κ 0,U κ 0,U κ 0,U κ 0,U κ 0,U κ 0,β false,U κ 0] 52)
 have h1:=h.alloc (ω #[U κ 0,U κ 0,U κ 0,U κ 0,U κ 0,U κ 0,β false,U κ 0] 52)
 have r1:=ba w #[U κ 0,U κ 0,U κ 0,U κ 0,U κ 0,U κ 0,β false,U κ 0] 52
 have L:Hid (∀ k,B.y bx k→k<w.heap.size):=h.lty
 clear h
 have c14:=h1.x.k14
 have u1:decide ((5:Int)<(X.imm:Int))=true:=decide_eq_true hi
 clear hi
 go_enter Tryz.func77,Tryz.ntmps77
 go_wp2_with fail
 refine(mo _ _ _ _ _ h1.x).mono ?_
 rintro e v ⟨rfl,fv⟩
 replace r1:=r1.keep fv (fun h=>h)
 have f2:=f1.trans fv
 have HJ:Hid (Jb v B nf bx M X):=h1.keep0 fv
 clear h1 fv f1 c14
 obtain ⟨x0,x1,x2,x3,x4,x5,x6,x7⟩:=jd r1
 obtain ⟨z0,z1,z2,z3,z4,z5,z6,z7⟩:=jb r1
 go_wp2_with fail
 refine bodyPost_ret (gl rfl rfl (dz r1 _ _ _ _ _ _ _ _) rfl) rfl ?_
 exact je (ro f2) HJ.out (Nat.le_refl _) L.out ⟨7,X.imm,X.pc,f0⟩ _ _ _ _ _ _ _ _ rfl
theorem wsys_ok (w:World) (B:Bm) (nf bx:Nat) (M:Mc) (X:Wk) (h:Jb w B nf bx M X) {b:Bk} (hb:B.v=some b) {S:Vg} (hV:M.V=some S) (hi:¬ (5:Int)<(X.imm:Int)):Calls pQ 77 #[π (some ⟨bx,0,none⟩)] w (Don w B nf bx (if (X.imm:Int)=2 then { M with V:=some (masS S ((min (X.z.r X.b) 256:Nat):Int)) } else M) { X with z:=X.z.setS X.imm (X.z.r X.b) } t0):=by
 have f1:=(Fr.refl bg w).alloc (ω #[U κ 0,U κ 0,U κ 0,U κ 0,U κ 0,U κ 0,β false,U κ 0] 52)
 have h1:=h.alloc (ω #[U κ 0,U κ 0,U κ 0,U κ 0,U κ 0,U κ 0,β false,U κ 0] 52)
 have r1:=ba w #[U κ 0,U κ 0,U κ 0,U κ 0,U κ 0,U κ 0,β false,U κ 0] 52
 have L:Hid (∀ k,B.y bx k→k<w.heap.size):=h.lty
 clear h
 have c14:=h1.x.k14
 have u1:decide ((5:Int)<(X.imm:Int))=false:=decide_eq_false hi
 have i1:0≤(X.imm:Int)∧(X.imm:Int)<8:=by omega
 have i8:X.imm<8:=by omega
 have hrl:=h1.ok.r X.b
 obtain ⟨y,hy⟩:∃ y:Nat,min (X.z.r X.b) 256=y:=⟨_,rfl⟩
 have hmn:=min_u (X.z.r X.b) 256
 have hmn2:min ((X.z.r X.b:Nat):Int) 256=(y:Int):=by omega
 rw[hy] at hmn ⊢
 have e3:IntKind.i64.wrap (y:Int)=(y:Int):=by rw[IntKind.wrap_i64];omega
 have HMN:Hid ((if (256:Int)<((X.z.r X.b:Nat):Int) then(256:Int) else((X.z.r X.b:Nat):Int))=(y:Int)):=hmn
 have hV2:∀ w1 (c:Int),c=(y:Int)→Jb w1 B nf bx M { X with z:=X.z.setS X.imm (X.z.r X.b) }→Calls pQ 120 #[π (some ⟨b.b,0,none⟩),U κ c] w1 fun e w'=>(∃ u,e=.returned u)∧Chg w1 b (masS S (y:Int)) w':=fun w1 c hc g=>by subst hc;exact(mask_any w1 b S (g.isVg hb hV) _).mono (fun e w' ⟨a,c⟩=>⟨⟨_,a⟩,c⟩)
 clear hmn hy
 obtain ⟨M2,hM2⟩:∃ q,(if (X.imm:Int)=2 then { M with V:=some (masS S (y:Int)) } else M)=q:=⟨_,rfl⟩
 have HM:Hid ((if (X.imm:Int)=2 then { M with V:=some (masS S (y:Int)) } else M)=M2):=hM2
 rw[hM2]
 clear hi hM2
 have HJ:Hid (Jb _ B nf bx M X):=h1
 go_enter Tryz.func77,Tryz.ntmps77
 go_wp2_with fail
 obtain ⟨v0,hv0⟩:∃ v0,v0=w.alloc (ω #[U κ 0,U κ 0,U κ 0,U κ 0,U κ 0,U κ 0,β false,U κ 0] 52):=⟨_,rfl⟩
 rw[←hv0] at c14 r1 f1 HJ ⊢
 clear hv0 h1
 have e1:v0.drew.cell? ⟨bx,14,none⟩=_:=c14
 go_cut [2] from 16 to 27 (fun s wx=>s=π (some ⟨w.heap.size,0,none⟩)∧Row wx w.heap.size #[U κ 0,U κ 0,U κ 0,U κ 0,U κ 0,U κ 0,β false,U κ 0] 52∧Fr (B.x bx) w wx∧Hid (Jb wx B nf bx M { X with z:=X.z.setS X.imm (X.z.r X.b) }))
 case first =>
  go_region_held3 (fun w'=>w'.cell? ⟨bx,14,none⟩=some (U κ (X.imm:Int))) (first | with_reducible exact c14 | with_reducible exact e1 | with_reducible exact k1 | with_reducible exact k3) (first
   | (go_at_call 112;refine(b_any _ _ _ HJ.out.drew.x HJ.out.b).mono ?_;rintro e v ⟨rfl,m,rfl⟩;obtain ⟨v,hv,fv⟩:=nk (w:=v0.drew) m;rw[←hv];have hJ:=HJ.out.drew.keep0 fv;have k1:=hJ.x.k14;have r5:=r1.drew.keep fv (fun h=>h);have f5:=(ro (B:=B) (bx:=bx) f1.drew).trans (ro fv);have cz:=hJ.x.sys i8;have zz:=hJ.x.frozen (32+X.imm);have hx:=hJ.x.setS (v:=X.z.r X.b) i8;have k3:(v.setCell ⟨bx,32+X.imm,none⟩ (U μ ((X.z.r X.b:Nat):Int))).cell? ⟨bx,14,none⟩=some (U κ (X.imm:Int)):=hx.k14;clear hv fv))
  all_goals go_wp2_with fail
  all_goals go_meet
  all_goals have q:=cy v bx (32+X.imm) (U μ ((X.z.r X.b:Nat):Int)) (Fr.refl _ v)
  all_goals exact ⟨rfl,r5.keep q (fun e=>absurd (L.out _ (Or.inl (Or.inr e))) (by omega)),f5.trans (fr_x q),hJ.turn q hx (hJ.ok.setS _ hrl)⟩
 case rest =>
  obtain ⟨rfl,R,fc,HK⟩:=hcut
  clear r1 f1 HJ c14 e1 v0
  have k14:=HK.out.x.k14
  by_cases h2:(X.imm:Int)=2
  ·have u2:((X.imm:Int) == 2)=true:=by simp[h2]
   have hM:=HM.out
   rw[if_pos h2] at hM
   subst hM
   clear HM h2
   have c2:=HK.out.k2v hb
   have e2:wc.drew.cell? ⟨bx,2,none⟩=_:=c2
   have e4:IntKind.i64.wrap ((X.z.r X.b:Nat):Int)=((X.z.r X.b:Nat):Int):=by rw[IntKind.wrap_i64];omega
   have hBB:∀ w1,Jb w1 B nf bx M { X with z:=X.z.setS X.imm (X.z.r X.b) }→Calls pQ 112 #[π (some ⟨bx,0,none⟩)] w1 fun e w'=>e=ρ (U μ ((X.z.r X.b:Nat):Int))∧∃ m,w'=w1.drewN m:=fun w1 g=>b_any w1 bx { X with z:=X.z.setS X.imm (X.z.r X.b) } g.x g.b
   clear hmn2 e3
   rcases Decidable.em ((256:Int)<((X.z.r X.b:Nat):Int)) with hq | hq
   all_goals
    go_wp2_with fail
    go_region_held3 (fun w'=>w'.cell? ⟨bx,2,none⟩=some (π (some ⟨b.b,0,none⟩))) (first | with_reducible exact c2 | with_reducible exact e2 | with_reducible exact k1 | with_reducible exact k3) (first
     | (go_at_call 112;refine(hBB _ HK.out.drew).mono ?_;rintro e v ⟨rfl,m,rfl⟩;obtain ⟨v,hv,fv⟩:=nk (w:=wc.drew) m;rw[←hv];have hJ:=HK.out.drew.keep0 fv;have k1:=hJ.k2v hb;have r5:=R.drew.keep fv (fun h=>h);have f5:=fc.drew.trans (ro fv);clear hv fv)
     | (go_at_call 120;refine(hV2 _ _ (by have hh:=HMN.out;first | (rw[hh,IntKind.wrap_i64];split at hh <;> omega) | (rw[IntKind.wrap_i64];split at hh <;> omega)) hJ).mono ?_;rintro e v2 ⟨⟨u,rfl⟩,q⟩;have h6:=hJ.vgic hb q;have k3:=h6.k2v hb))
    all_goals have r6:=r5.keep q.1 (fun e=>absurd (L.out _ (Or.inl (Or.inl (Or.inr (Or.inr (by simp only[Bm.g,hb];exact e)))))) (by omega))
    all_goals have f7:=f5.trans (fr_g hb q.1)
    all_goals have HQ:Hid (Jb v2 B nf bx { M with V:=some (masS S (y:Int)) } { X with z:=X.z.setS X.imm (X.z.r X.b) }):=h6
    all_goals clear hJ h6 f5 q k1 k3
    all_goals obtain ⟨x0,x1,x2,x3,x4,x5,x6,x7⟩:=jd r6
    all_goals obtain ⟨z0,z1,z2,z3,z4,z5,z6,z7⟩:=jb r6
    all_goals go_wp2_with fail
    all_goals refine bodyPost_ret (gl rfl rfl (dz r6 _ _ _ _ _ _ _ _) rfl) rfl ?_
    all_goals exact je f7 HQ.out (Nat.le_refl _) L.out t0 _ _ _ _ _ _ _ _ rfl
  ·have u2:((X.imm:Int) == 2)=false:=by simp[h2]
   have hM:=HM.out
   rw[if_neg h2] at hM
   subst hM
   clear HM h2
   obtain ⟨x0,x1,x2,x3,x4,x5,x6,x7⟩:=jd R
   obtain ⟨z0,z1,z2,z3,z4,z5,z6,z7⟩:=jb R
   go_wp2_with fail
   refine bodyPost_ret (gl rfl rfl (dz R _ _ _ _ _ _ _ _) rfl) rfl ?_
   exact je fc HK.out (Nat.le_refl _) L.out t0 _ _ _ _ _ _ _ _ rfl
theorem wait_none (w:World) (B:Bm) (nf bx:Nat) (M:Mc) (X:Wk) (h:Jb w B nf bx M X) (hb:B.v=none):Calls pQ 78 #[π (some ⟨bx,0,none⟩)] w (Don w B nf bx M X ⟨9,0,X.pc,f0⟩):=by
 have f1:=(Fr.refl bg w).alloc (ω #[U κ 0,U κ 0,U κ 0,U κ 0,U κ 0,U κ 0,β false,U κ 0] 52)
 have h1:=h.alloc (ω #[U κ 0,U κ 0,U κ 0,U κ 0,U κ 0,U κ 0,β false,U κ 0] 52)
 have r1:=ba w #[U κ 0,U κ 0,U κ 0,U κ 0,U κ 0,U κ 0,β false,U κ 0] 52
 have L:Hid (∀ k,B.y bx k→k<w.heap.size):=h.lty
 clear h
 have c2:=h1.k2n hb
 go_enter Tryz.func78,Tryz.ntmps78
 go_wp2_with fail
 refine(mo _ _ _ _ _ h1.x).mono ?_
 rintro e v ⟨rfl,fv⟩
 replace r1:=r1.keep fv (fun h=>h)
 have f2:=f1.trans fv
 have HJ:Hid (Jb v B nf bx M X):=h1.keep0 fv
 clear h1 fv f1
 clear c2
 obtain ⟨x0,x1,x2,x3,x4,x5,x6,x7⟩:=jd r1
 obtain ⟨z0,z1,z2,z3,z4,z5,z6,z7⟩:=jb r1
 go_wp2_with fail
 refine bodyPost_ret (gl rfl rfl (dz r1 _ _ _ _ _ _ _ _) rfl) rfl ?_
 exact je (ro f2) HJ.out (Nat.le_refl _) L.out ⟨9,0,X.pc,f0⟩ _ _ _ _ _ _ _ _ rfl
theorem wait_some (w:World) (B:Bm) (nf bx:Nat) (M:Mc) (X:Wk) (h:Jb w B nf bx M X) {b:Bk} (hb:B.v=some b) {S:Vg} (hV:M.V=some S):Calls pQ 78 #[π (some ⟨bx,0,none⟩)] w (Don w B nf bx M X (if (mw S).isSome=true then t0 else ⟨9,0,X.pc,f0⟩)):=by
 have f1:=(Fr.refl bg w).alloc (ω #[U κ 0,U κ 0,U κ 0,U κ 0,U κ 0,U κ 0,β false,U κ 0] 52)
 have h1:=h.alloc (ω #[U κ 0,U κ 0,U κ 0,U κ 0,U κ 0,U κ 0,β false,U κ 0] 52)
 have r1:=ba w #[U κ 0,U κ 0,U κ 0,U κ 0,U κ 0,U κ 0,β false,U κ 0] 52
 have L:Hid (∀ k,B.y bx k→k<w.heap.size):=h.lty
 clear h
 have c2:=h1.k2v hb
 have hN:=fun w1 (g:Jb w1 B nf bx M X)=>next_any w1 b S (g.isVg hb hV)
 cases ho:(mw S).isSome with
 | true =>
  rw[ho] at hN
  rw[if_pos rfl]
  go_enter Tryz.func78,Tryz.ntmps78
  go_wp2_with fail
  refine(hN _ h1).mono ?_
  rintro e v ⟨rfl,fv⟩
  replace r1:=r1.keep fv (fun h=>h)
  have f2:=f1.trans fv
  have HJ:Hid (Jb v B nf bx M X):=h1.keep0 fv
  clear h1 fv f1 c2 hN
  obtain ⟨x0,x1,x2,x3,x4,x5,x6,x7⟩:=jd r1
  obtain ⟨z0,z1,z2,z3,z4,z5,z6,z7⟩:=jb r1
  go_wp2_with fail
  refine bodyPost_ret (gl rfl rfl (dz r1 _ _ _ _ _ _ _ _) rfl) rfl ?_
  exact je (ro f2) HJ.out (Nat.le_refl _) L.out t0 _ _ _ _ _ _ _ _ rfl
 | false =>
  rw[ho] at hN
  rw[if_neg (by decide)]
  go_enter Tryz.func78,Tryz.ntmps78
  go_wp2_with fail
  refine(hN _ h1).mono ?_
  rintro e v' ⟨rfl,fv⟩
  replace r1:=r1.keep fv (fun h=>h)
  replace f1:=f1.trans fv
  replace h1:=h1.keep0 fv
  clear fv c2 hN
  go_wp2_with fail
  refine(mo _ _ _ _ _ h1.x).mono ?_
  rintro e v ⟨rfl,fv⟩
  replace r1:=r1.keep fv (fun h=>h)
  have f2:=f1.trans fv
  have HJ:Hid (Jb v B nf bx M X):=h1.keep0 fv
  clear h1 fv f1
  obtain ⟨x0,x1,x2,x3,x4,x5,x6,x7⟩:=jd r1
  obtain ⟨z0,z1,z2,z3,z4,z5,z6,z7⟩:=jb r1
  go_wp2_with fail
  refine bodyPost_ret (gl rfl rfl (dz r1 _ _ _ _ _ _ _ _) rfl) rfl ?_
  exact je (ro f2) HJ.out (Nat.le_refl _) L.out ⟨9,0,X.pc,f0⟩ _ _ _ _ _ _ _ _ rfl
theorem wend_any (w:World) (B:Bm) (nf bx:Nat) (M:Mc) (X:Wk) (h:Jb w B nf bx M X) {b:Bk} (hb:B.v=some b) {S:Vg} (hV:M.V=some S):Calls pQ 80 #[π (some ⟨bx,0,none⟩)] w (Don w B nf bx { M with V:=some (endS S ((min (X.z.r X.b) 64:Nat):Int)) } X (if endF S ((min (X.z.r X.b) 64:Nat):Int)=true then ⟨10,X.z.r X.b,X.pc,f0⟩ else t0)):=by
 have f1:=(Fr.refl bg w).alloc (ω #[U κ 0,U κ 0,U κ 0,U κ 0,U κ 0,U κ 0,β false,U κ 0] 52)
 have h1:=h.alloc (ω #[U κ 0,U κ 0,U κ 0,U κ 0,U κ 0,U κ 0,β false,U κ 0] 52)
 have r1:=ba w #[U κ 0,U κ 0,U κ 0,U κ 0,U κ 0,U κ 0,β false,U κ 0] 52
 have L:Hid (∀ k,B.y bx k→k<w.heap.size):=h.lty
 clear h
 have hrl:=h1.ok.r X.b
 have HMN:Hid ((if (64:Int)<((X.z.r X.b:Nat):Int) then(64:Int) else((X.z.r X.b:Nat):Int))=((min (X.z.r X.b) 64:Nat):Int)):=min_u (X.z.r X.b) 64
 have e4:IntKind.i64.wrap ((X.z.r X.b:Nat):Int)=((X.z.r X.b:Nat):Int):=by rw[IntKind.wrap_i64];omega
 obtain ⟨y,hy⟩:∃ y:Nat,min (X.z.r X.b) 64=y:=⟨_,rfl⟩
 rw[hy] at HMN ⊢
 clear hy
 have hV2:∀ w1 (c:Int),c=(y:Int)→Jb w1 B nf bx M X→Calls pQ 123 #[π (some ⟨b.b,0,none⟩),U κ c] w1 fun e w'=>e=ρ (τ #[β (endF S (y:Int)),U κ (endE S (y:Int))])∧Chg w1 b (endS S (y:Int)) w':=fun w1 c hc g=>by subst hc;exact end_any w1 b S (g.isVg hb hV) _
 obtain ⟨F,hF⟩:∃ F,endF S (y:Int)=F:=⟨_,rfl⟩
 rw[hF] at hV2 ⊢
 obtain ⟨S2,hS2⟩:∃ S2,endS S (y:Int)=S2:=⟨_,rfl⟩
 rw[hS2] at hV2 ⊢
 obtain ⟨E,hE⟩:∃ E,endE S (y:Int)=E:=⟨_,rfl⟩
 rw[hE] at hV2
 clear hF hS2 hE
 have c2:=h1.k2v hb
 have HJ:Hid (Jb _ B nf bx M X):=h1
 obtain ⟨T2,hT2⟩:∃ q,(if F=true then(⟨10,X.z.r X.b,X.pc,f0⟩:Tr) else t0)=q:=⟨_,rfl⟩
 have HT:Hid ((if F=true then(⟨10,X.z.r X.b,X.pc,f0⟩:Tr) else t0)=T2):=hT2
 rw[hT2]
 clear hT2
 go_enter Tryz.func80,Tryz.ntmps80
 go_wp2_with fail
 obtain ⟨v0,hv0⟩:∃ v0,v0=w.alloc (ω #[U κ 0,U κ 0,U κ 0,U κ 0,U κ 0,U κ 0,β false,U κ 0] 52):=⟨_,rfl⟩
 rw[←hv0] at c2 r1 f1 HJ ⊢
 clear hv0 h1
 have e2:v0.drew.cell? ⟨bx,2,none⟩=_:=c2
 go_cut [2,3] from 5 to 17 (fun s a wx=>s=π (some ⟨w.heap.size,0,none⟩)∧a=β F∧Row wx w.heap.size #[U κ 0,U κ 0,U κ 0,U κ 0,U κ 0,U κ 0,β false,U κ 0] 52∧Fr (B.x bx) w wx∧Hid (Jb wx B nf bx { M with V:=some S2 } X))
 case first =>
  rcases Decidable.em ((64:Int)<((X.z.r X.b:Nat):Int)) with hq | hq
  all_goals
   go_region_held3 (fun w'=>w'.cell? ⟨bx,2,none⟩=some (π (some ⟨b.b,0,none⟩))) (first | with_reducible exact c2 | with_reducible exact e2 | with_reducible exact k1 | with_reducible exact k3) (first
    | (go_at_call 112;refine(b_any _ _ _ HJ.out.drew.x HJ.out.b).mono ?_;rintro e v ⟨rfl,m,rfl⟩;obtain ⟨v,hv,fv⟩:=nk (w:=v0.drew) m;rw[←hv];have hJ:=HJ.out.drew.keep0 fv;have k1:=hJ.k2v hb;have r5:=r1.drew.keep fv (fun h=>h);have f5:=(ro (B:=B) (bx:=bx) f1.drew).trans (ro fv);clear hv fv)
    | (go_at_call 123;refine(hV2 _ _ (by have hh:=HMN.out;first | (rw[hh,IntKind.wrap_i64];split at hh <;> omega) | (rw[IntKind.wrap_i64];split at hh <;> omega)) hJ).mono ?_;rintro e v2 ⟨rfl,q⟩;have h6:=hJ.vgic hb q;have k3:=h6.k2v hb))
   all_goals go_wp2_with fail
   all_goals go_meet
   all_goals exact ⟨rfl,rfl,r5.keep q.1 (fun e=>absurd (L.out _ (Or.inl (Or.inl (Or.inr (Or.inr (by simp only[Bm.g,hb];exact e)))))) (by omega)),f5.trans (fr_g hb q.1),h6⟩
 case rest =>
  obtain ⟨rfl,rfl,R,fc,HK⟩:=hcut
  clear r1 f1 HJ c2 e2 v0 hV2
  cases F with
  | true =>
   have hT:=HT.out
   rw[if_pos rfl] at hT
   subst hT
   go_wp2_with fail
   refine(b_any _ _ _ HK.out.x HK.out.b).mono ?_
   rintro e v' ⟨rfl,m,rfl⟩
   obtain ⟨v',hv,fv⟩:=nk (w:=wc) m
   rw[←hv]
   have h1:=HK.out.keep0 fv
   have r1:=R.keep fv (fun h=>h)
   have f1:=fc.trans (ro fv)
   clear hv fv HK fc R
   go_wp2_with fail
   refine(mo _ _ _ _ _ h1.x).mono ?_
   rintro e v ⟨rfl,fv⟩
   replace r1:=r1.keep fv (fun h=>h)
   have f2:=f1.trans (ro fv)
   have HJ:Hid (Jb v B nf bx { M with V:=some S2 } X):=h1.keep0 fv
   clear h1 fv f1
   obtain ⟨x0,x1,x2,x3,x4,x5,x6,x7⟩:=jd r1
   obtain ⟨z0,z1,z2,z3,z4,z5,z6,z7⟩:=jb r1
   go_wp2_with fail
   refine bodyPost_ret (gl rfl rfl (dz r1 _ _ _ _ _ _ _ _) rfl) rfl ?_
   exact je f2 HJ.out (Nat.le_refl _) L.out ⟨10,X.z.r X.b,X.pc,f0⟩ _ _ _ _ _ _ _ _ rfl
  | false =>
   have hT:=HT.out
   rw[if_neg (by decide)] at hT
   subst hT
   obtain ⟨x0,x1,x2,x3,x4,x5,x6,x7⟩:=jd R
   obtain ⟨z0,z1,z2,z3,z4,z5,z6,z7⟩:=jb R
   go_wp2_with fail
   refine bodyPost_ret (gl rfl rfl (dz R _ _ _ _ _ _ _ _) rfl) rfl ?_
   exact je fc HK.out (Nat.le_refl _) L.out t0 _ _ _ _ _ _ _ _ rfl
def Mc.S (M:Mc):Vg:=M.V.getD (po 1)
def isG (k:Nat):Bool:=k == 17 || k == 19 || k == 20 || k == 22 || k == 23 || k == 24
def wfT (M:Mc) (X:Wk):Tr:=match M.V with
 | some S=>if (mw S).isSome=true then t0 else ⟨9,0,X.pc,f0⟩
 | none=>⟨9,0,X.pc,f0⟩
def eoT (S:Vg) (X:Wk):Tr:=if endF S ((min (X.z.r X.b) 64:Nat):Int)=true then ⟨10,X.z.r X.b,X.pc,f0⟩ else t0
def Wk.setZ (X:Wk) (z:Cp):Wk:={ X with z:=z }
def ji (nf:Nat) (M:Mc) (X:Wk):Mc×Wk×Tr:=match X.op with
 | 1=>(M,X.setZ (X.z.setR X.a X.imm),t0)
 | 2=>(M,X.setZ (X.z.setR X.a (gAdd (X.z.r X.b) (X.z.r X.c))),t0)
 | 3=>(M,X.setZ (X.z.setR X.a (gSub (X.z.r X.b) (X.z.r X.c))),t0)
 | 4=>(M,X.setZ (X.z.setR X.a (gAnd (X.z.r X.b) (X.z.r X.c))),t0)
 | 5=>(M,X.setZ (X.z.setR X.a (gXor (X.z.r X.b) (X.z.r X.c))),t0)
 | 6=>(M,X.setZ (X.z.setR X.a (gShl (X.z.r X.b) (X.z.r X.c))),t0)
 | 7=>(dM M nf X 4 1,ldX M nf X 4,dT M nf X 4 1 2)
 | 8=>(stM M nf X 4,X,dT M nf X 4 2 3)
 | 9=>(dM M nf X 1 1,ldX M nf X 1,dT M nf X 1 1 2)
 | 10=>(stM M nf X 1,X,dT M nf X 1 2 3)
 | 11=>(M,X.setZ (if decide (X.z.r X.a=X.z.r X.b)=true then X.z.setP X.imm else X.z),t0)
 | 12=>(M,X.setZ (if (!decide (X.z.r X.a=X.z.r X.b))=true then X.z.setP X.imm else X.z),t0)
 | 13=>(M,X.setZ (if decide (X.z.r X.a<X.z.r X.b)=true then X.z.setP X.imm else X.z),t0)
 | 14=>(M,X.setZ (X.z.setP X.imm),t0)
 | 15=>(M,X.setZ ((X.z.setR X.a ((X.pc+4)%65536).toNat).setP X.imm),t0)
 | 16=>(M,X.setZ (X.z.setP ((X.z.r X.b%65536:Nat):Int)),t0)
 | 17=>(M,X,⟨5,X.imm,X.pc,f0⟩)
 | 18=>(M,X,⟨6,X.imm,X.pc,f0⟩)
 | 19=>(M,rdX X,rdT X)
 | 20=>(wrM M M.S X,wrX X,wrT X)
 | 21=>(M,X,wfT M X)
 | 22=>({ M with V:=some (ackS M.S) },X.setZ (X.z.setR X.a (wi M.S).toNat),t0)
 | 23=>({ M with V:=some (endS M.S ((min (X.z.r X.b) 64:Nat):Int)) },X,eoT M.S X)
 | 24=>(fgM M X,X,t0)
 | _=>(M,X,t0)
end Go.Proofs.YtibhbjbpodlpiaaGreat
