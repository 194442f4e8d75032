/-
  Contracts over the translation. No statement is proved here.
-/
import Derived.Test.YtibhbjbpodlpiaaGreatQJQ
import Derived.Test.YtibhbjbpodlpiaaGreatQJT
import Derived.Test.YtibhbjbpodlpiaaGreatQWalkRefReach
set_option maxRecDepth 100000
set_option maxHeartbeats 8000000
namespace Go.Proofs.YtibhbjbpodlpiaaGreat
open Go.RowKit
open Go.Value renaming int → U, bool → β, pointer → π, tuple → τ
open Go.IntKind renaming i64 → κ, u32 → μ
open Go.Obj renaming cells → ω
open Go.Ending renaming returned → ρ
open Go.Proofs.Tryz renaming prog → pQ
section
open Go.RowKit
structure Bd where
 p:Nat
 f:Nat
 t:Nat
 v:Option Nat
def RvO (w:World):Option Nat→Option Vg→Prop
 | some b,some S=>IsRv w b S
 | none,none=>True
 | _,_=>False
theorem RvO.keep {w w':World} {b:Option Nat} {V:Option Vg} (h:RvO w b V) {S:Nat→Prop} (f:Fr S w w') (hs:∀ k,b=some k→¬ S k):RvO w' b V:=by
 cases b with
 | none=>cases V with
  | none=>trivial
  | some S=>exact h.elim
 | some B=>cases V with
  | none=>exact h.elim
  | some S=>exact IsRv.keep h f (hs B rfl)
theorem RvO.same {w:World} {b:Option Nat} {V:Option Vg} (h:RvO w b V):b.isSome=V.isSome:=by
 cases b <;> cases V <;> first | rfl | exact h.elim
theorem RvO.lt {w:World} {b:Option Nat} {V:Option Vg} (h:RvO w b V) {k:Nat} (hk:b=some k):k<w.heap.size:=by
 subst hk
 cases V with
 | none=>exact h.elim
 | some S=>exact IsRv.lt h k rfl
structure IsMd (w:World) (D:Bd) (nf:Nat) (M:Mc):Prop where
 r:IsRef w D.p D.f nf M.bs
 t:gj w D.t M.T M.fo M.mi
 v:RvO w D.v M.V
 d1:D.p≠D.t
 d2:D.f≠D.t
 e:∀ b,D.v=some b→b≠D.p∧b≠D.f∧b≠D.t
def Bd.s (D:Bd):Nat→Prop:=fun k=>k=D.f∨k=D.t∨D.v=some k
def Bd.y (D:Bd):Nat→Prop:=fun k=>D.s k∨k=D.p
def Bd.a (D:Bd):Value:=.agg #[π (some ⟨D.p,0,none⟩),π (some ⟨D.t,0,none⟩),gu D.v]
section
variable {w w':World} {D:Bd} {nf:Nat} {M:Mc}
theorem IsMd.keep (h:IsMd w D nf M) {S:Nat→Prop} (f:Fr S w w') (hs:∀ k,D.y k→¬ S k):IsMd w' D nf M:=
 ⟨h.r.keep f (hs _ (Or.inr rfl)) (hs _ (Or.inl (Or.inl rfl))),h.t.keep f (hs _ (Or.inl (Or.inr (Or.inl rfl)))),h.v.keep f (fun _ hk=>hs _ (Or.inl (Or.inr (Or.inr hk)))),h.d1,h.d2,h.e⟩
theorem IsMd.keep0 (h:IsMd w D nf M) (f:Fr bg w w'):IsMd w' D nf M:=h.keep f (fun _ _ h=>h)
theorem IsMd.alloc (h:IsMd w D nf M) (o:Obj):IsMd (w.alloc o) D nf M:=h.keep0 ((Fr.refl bg w).alloc o)
theorem IsMd.drew (h:IsMd w D nf M):IsMd w.drew D nf M:=h.keep0 (Fr.refl bg w).drew
theorem IsMd.lt (h:IsMd w D nf M) (k:Nat) (hk:D.y k):k<w.heap.size:=by
 rcases hk with(rfl | rfl | hk) | rfl
 ·exact h.r.row.lt
 ·exact h.t.lt
 ·exact h.v.lt hk
 ·exact h.r.head.lt
theorem IsMd.past (h:IsMd w D nf M) {b:Nat} (f:Fr (at' b) w w') (hb:∀ k,D.y k→k≠b):IsMd w' D nf M:=h.keep f (fun k hk e=>hb k hk e)
theorem IsMd.buf (h:IsMd w D nf M) (f:Fr (at' D.t) w w') {T:Nat→Ln} {fo mi:Int} (ht:gj w' D.t T fo mi):IsMd w' D nf { M with T:=T,fo:=fo,mi:=mi }:=
 ⟨h.r.keep f h.d1 h.d2,ht,h.v.keep f (fun k hk e=>(h.e k hk).2.2 e),h.d1,h.d2,h.e⟩
theorem frd_t (f:Fr (at' D.t) w w'):Fr D.s w w':=f.mono (fun _ _ h=>Or.inr (Or.inl h))
theorem di (f:Fr bg w w'):Fr D.s w w':=f.mono (fun _ _ h=>h.elim)
end
theorem d_single (bs:List UInt8) (nf:Nat) (root page:Int) (h:(cv bs nf root page).ft.k=0):(cv bs nf root page).ft=f0:=by
 revert h
 unfold cv
 repeat' split
 all_goals intro h
 ·exact absurd h (show ¬ (3:Int)=0 by decide)
 ·exact absurd h ‹_›
 ·exact absurd h ‹_›
 ·rfl
theorem d_granted (bs:List UInt8) (nf:Nat) (root page want:Int) (h:(ce bs nf root page want).ft.k=0):(ce bs nf root page want).ft=f0:=by
 revert h
 unfold ce
 repeat' split
 all_goals intro h
 ·exact d_single _ _ _ _ h
 ·exact absurd h (show ¬ (2:Int)=0 by decide)
 ·exact d_single _ _ _ _ h
theorem d_guest (bs:List UInt8) (nf:Nat) (second table page lvl:Int) (h:(ci bs nf second table page lvl).ft.k=0):(ci bs nf second table page lvl).ft=f0:=by
 revert h
 unfold ci
 repeat' split
 all_goals intro h
 ·exact absurd h ‹_›
 ·exact absurd h ‹_›
 ·rfl
theorem d_nested (bs:List UInt8) (nf:Nat) (first second page want:Int) (h:(cg bs nf first second page want).ft.k=0):(cg bs nf first second page want).ft=f0:=by
 revert h
 unfold cg
 repeat' split
 all_goals intro h
 ·exact absurd h (show ¬ (3:Int)=0 by decide)
 ·exact d_granted _ _ _ _ _ h
 ·exact d_guest _ _ _ _ _ _ h
 ·exact d_guest _ _ _ _ _ _ h
 ·exact absurd h (show ¬ (2:Int)=0 by decide)
 ·exact d_granted _ _ _ _ _ h
theorem d_reachX (bs:List UInt8) (nf:Nat) (T:Nat→Ln) (vm sd first second page want:Int) (h:(go bs nf T vm sd first second page want).k=0):go bs nf T vm sd first second page want=f0:=by
 revert h
 unfold go
 split
 ·intro _;rfl
 ·exact d_nested _ _ _ _ _ _
def Rcd (w:World) (D:Bd) (nf:Nat) (M:Mc) (p:Int) (f:Ft) (e:Ending) (w':World):Prop:=e=ρ (τ #[U κ p,.agg #[U κ f.k,U κ f.s,U κ f.l,β f.wk,U κ f.p]])∧Fr D.s w w'∧IsMd w' D nf M
theorem gv (w:World) (D:Bd) (nf:Nat) (M:Mc) (vm sd fi se ad want ix:Int) (h:IsMd w D nf M) {n:Nat} (hm:M.few n) (hn:n<999990) (ha:0≤ad∧ad≤65535) :
  Calls pQ 29 #[D.a,.agg #[U κ vm,U κ sd,U κ fi,U κ se],U κ ad,U κ want,U κ ix] w (Rcd w D nf (rcM M nf vm sd fi se ad want ix) (rcP M nf vm sd fi se ad want) (rcF M nf vm sd fi se ad want)):=by
 have hR:∀ w1,IsMd w1 D nf M→Calls pQ 83 #[π (some ⟨D.p,0,none⟩),π (some ⟨D.t,0,none⟩),.agg #[U κ vm,U κ sd,U κ fi,U κ se],U κ (ad / 64),U κ want,U κ ix] w1 fun e w'=>e=ρ (τ #[U κ (j7 M.bs nf M.T vm sd fi se (ad / 64) want),.agg #[U κ (go M.bs nf M.T vm sd fi se (ad / 64) want).k,U κ (go M.bs nf M.T vm sd fi se (ad / 64) want).s,U κ (go M.bs nf M.T vm sd fi se (ad / 64) want).l,β (go M.bs nf M.T vm sd fi se (ad / 64) want).wk,U κ (go M.bs nf M.T vm sd fi se (ad / 64) want).p]])∧Fr D.s w1 w'∧IsMd w' D nf (rcM M nf vm sd fi se ad want ix):=fun w1 h1 =>
  (rreach_any w1 D.p D.f nf M.bs D.t M.T M.fo M.mi vm sd fi se (ad / 64) want ix h1.r h1.t hm.good hm.uniq ⟨hm.fo,by have:=hm.sum;have:=hm.mi;omega⟩ ⟨hm.mi,by have:=hm.sum;have:=hm.fo;omega⟩ h1.d1 h1.d2).mono fun e w' ⟨he,f,ht⟩=>⟨he,frd_t f,h1.buf f ht⟩
 have L:Hid (∀ k,D.y k→k<w.heap.size):=h.lt
 have HF:=fun w1 (h1:IsMd w1 D nf (rcM M nf vm sd fi se ad want ix))=>gy w1 D.p D.f nf M.bs h1.r
 have Hrc:Hid (rcF M nf vm sd fi se ad want=(if (go M.bs nf M.T vm sd fi se (ad / 64) want).k≠0 then go M.bs nf M.T vm sd fi se (ad / 64) want else if (nf:Int)≤j7 M.bs nf M.T vm sd fi se (ad / 64) want then ⟨3,0,0,false,0⟩ else f0)∧rcP M nf vm sd fi se ad want=if (rcF M nf vm sd fi se ad want).k≠0 then 0 else j7 M.bs nf M.T vm sd fi se (ad / 64) want*64+ad%64):=⟨rfl,rfl⟩
 have hnf:nf≤1024:=h.r.most
 have hx0:=d_reachX M.bs nf M.T vm sd fi se (ad / 64) want
 have hq:=p4 hm.good M.bs nf vm sd fi se (ad / 64) want
 obtain ⟨M',hM'⟩:∃ M',rcM M nf vm sd fi se ad want ix=M':=⟨_,rfl⟩
 obtain ⟨F,hF⟩:∃ F,go M.bs nf M.T vm sd fi se (ad / 64) want=F:=⟨_,rfl⟩
 obtain ⟨Q,hQ⟩:∃ Q,j7 M.bs nf M.T vm sd fi se (ad / 64) want=Q:=⟨_,rfl⟩
 obtain ⟨F',hF'⟩:∃ F',rcF M nf vm sd fi se ad want=F':=⟨_,rfl⟩
 obtain ⟨P',hP'⟩:∃ P',rcP M nf vm sd fi se ad want=P':=⟨_,rfl⟩
 rw[hF,hQ,hF',hP'] at Hrc
 rw[hM',hF',hP']
 rw[hM',hF,hQ] at hR
 rw[hQ] at hq
 rw[hF] at hx0
 rw[hM'] at HF
 clear hM' hF hQ hF' hP' hm
 have q1:ad.tdiv 64=ad / 64:=Int.tdiv_eq_ediv_of_nonneg ha.1
 have q2:IntKind.i64.wrap (ad / 64)=ad / 64:=by rw[IntKind.wrap_i64];omega
 unfold Bd.a
 have rm:=((ba w #[π (some ⟨D.p,0,none⟩),π (some ⟨D.t,0,none⟩),gu D.v] 42).alloc (ω #[U κ vm,U κ sd,U κ fi,U κ se] 63)).alloc (ω #[U κ 0,U κ 0,U κ 0,β false,U κ 0] 50)
 have rf:Row (((w.alloc (ω #[π (some ⟨D.p,0,none⟩),π (some ⟨D.t,0,none⟩),gu D.v] 42)).alloc (ω #[U κ vm,U κ sd,U κ fi,U κ se] 63)).alloc (ω #[U κ 0,U κ 0,U κ 0,β false,U κ 0] 50)) (w.heap.size+2) #[U κ 0,U κ 0,U κ 0,β false,U κ 0] 50:=dq (by simp)
 have ff:=(((Fr.refl bg w).alloc (ω #[π (some ⟨D.p,0,none⟩),π (some ⟨D.t,0,none⟩),gu D.v] 42)).alloc (ω #[U κ vm,U κ sd,U κ fi,U κ se] 63)).alloc (ω #[U κ 0,U κ 0,U κ 0,β false,U κ 0] 50)
 obtain ⟨v0,hv0⟩:∃ v0,v0=(((w.alloc (ω #[π (some ⟨D.p,0,none⟩),π (some ⟨D.t,0,none⟩),gu D.v] 42)).alloc (ω #[U κ vm,U κ sd,U κ fi,U κ se] 63)).alloc (ω #[U κ 0,U κ 0,U κ 0,β false,U κ 0] 50)):=⟨_,rfl⟩
 go_enter Tryz.func29,Tryz.ntmps29
 go_wp2_with fail
 rw[←hv0] at rm rf ff ⊢
 have h0:=h.keep0 ff
 clear hv0 h
 refine(hR v0 h0).mono ?_
 rintro e v ⟨rfl,fv,hv⟩
 have n1:¬ D.s w.heap.size:=fun e=>absurd (L.out _ (Or.inl e)) (by omega)
 have n2:¬ D.s (w.heap.size+2):=fun e=>absurd (L.out _ (Or.inl e)) (by omega)
 replace rm:=rm.keep fv n1
 replace rf:=rf.keep fv n2
 have fw:Fr D.s w v:=(di ff).trans fv
 have HY:Hid (∀ k,D.y k→k≠w.heap.size+2):=fun k hk=>by have:=L.out k hk;omega
 clear fv ff h0 hR n1 n2
 obtain ⟨gm,hgm⟩:∃ g,g=w.heap.size:=⟨_,rfl⟩
 obtain ⟨gf,hgf⟩:∃ g,g=w.heap.size+2:=⟨_,rfl⟩
 have HG:Hid (w.heap.size≤gf):=(show _≤_ by omega)
 rw[←hgf] at rf HY ⊢
 rw[←hgm] at rm ⊢
 clear hgm hgf
 have c0:v.cell? ⟨gm,0,none⟩=some (π (some ⟨D.p,0,none⟩)):=rm.cell 0
 have lm:gm<v.heap.size:=rm.lt
 have lf:gf<v.heap.size:=rf.lt
 clear rm
 by_cases hk:F.k=0
 ·have HX:Hid (F=f0):=hx0 hk
  clear hx0
  have t1:(F.k != 0)=false:=by simp[hk]
  have R9:=ba v #[U κ 0,U κ F.s,U κ F.l,β F.wk,U κ F.p] 50
  have R7:=rf.alloc (ω #[U κ 0,U κ F.s,U κ F.l,β F.wk,U κ F.p] 50)
  have hv9:=hv.alloc (ω #[U κ 0,U κ F.s,U κ F.l,β F.wk,U κ F.p] 50)
  have fw9:=fw.alloc (ω #[U κ 0,U κ F.s,U κ F.l,β F.wk,U κ F.p] 50)
  go_wp2_with fail
  refine(HF _ hv9).mono ?_
  rintro e v' ⟨rfl,rfl⟩
  clear HF hv fw rf c0 lm
  obtain ⟨wc,hwc⟩:∃ wc,wc=v.alloc (ω #[U κ 0,U κ F.s,U κ F.l,β F.wk,U κ F.p] 50):=⟨_,rfl⟩
  rw[←hwc] at R9 R7 hv9 fw9 ⊢
  clear hwc
  obtain ⟨g9,hg9⟩:∃ g,g=v.heap.size:=⟨_,rfl⟩
  rw[←hg9] at R9 lf ⊢
  clear hg9
  obtain ⟨y0,y1,y2,y3,y4⟩:=bl R9
  obtain ⟨x0,x1,x2,x3,x4⟩:=bl R7
  obtain ⟨z0,z1,z2,z3,z4⟩:=bz R7
  by_cases hn:(nf:Int)≤Q
  ·have t2:decide ((nf:Int)≤Q)=true:=decide_eq_true hn
   obtain ⟨e1,e2⟩:=Hrc.out
   rw[if_neg (by simp[hk]),if_pos hn] at e1
   subst e1
   rw[if_pos (by decide)] at e2
   subst e2
   clear R9 y0 y1 y2 y3 y4
   go_wp2_with fail
   refine bodyPost_ret (jt rfl rfl (R7.put5 _ _ _ _ _) rfl) rfl ?_
   exact ⟨rfl,fw9.newerS (jx _ _ _ _ _ _ _) HG.out,hv9.past (jx _ _ _ _ _ _ _) HY.out⟩
  ·have t2:decide ((nf:Int)≤Q)=false:=decide_eq_false hn
   have w1:IntKind.i64.wrap (64*Q)=Q*64:=by rw[IntKind.wrap_i64];omega
   have w1':IntKind.i64.wrap (Q*64)=Q*64:=by rw[IntKind.wrap_i64];omega
   have w2:ad.tmod 64=ad%64:=Int.tmod_eq_emod_of_nonneg ha.1
   have w3:IntKind.i64.wrap (Q*64+ad%64)=Q*64+ad%64:=by rw[IntKind.wrap_i64];omega
   obtain ⟨e1,e2⟩:=Hrc.out
   rw[if_neg (by simp[hk]),if_neg hn] at e1
   subst e1
   rw[if_neg (by decide)] at e2
   go_wp2_with fail
   go_region
   go_wp2_with fail
   refine bodyPost_ret (jt rfl rfl (R7.put5 _ _ _ _ _).drew rfl) rfl ?_
   exact ⟨by rw[e2,HX.out];rfl,(fw9.newerS (jx _ _ _ _ _ _ _) HG.out).drew,(hv9.past (jx _ _ _ _ _ _ _) HY.out).drew⟩
 ·clear hx0
  have t1:(F.k != 0)=true:=by simp[hk]
  have R9:=ba v #[U κ F.k,U κ F.s,U κ F.l,β F.wk,U κ F.p] 50
  have R7:=rf.alloc (ω #[U κ F.k,U κ F.s,U κ F.l,β F.wk,U κ F.p] 50)
  have hv9:=hv.alloc (ω #[U κ F.k,U κ F.s,U κ F.l,β F.wk,U κ F.p] 50)
  have fw9:=fw.alloc (ω #[U κ F.k,U κ F.s,U κ F.l,β F.wk,U κ F.p] 50)
  obtain ⟨e1,e2⟩:=Hrc.out
  rw[if_pos hk] at e1
  subst e1
  rw[if_pos hk] at e2
  subst e2
  go_wp2_with fail
  clear HF hv fw rf c0 lm
  obtain ⟨wc,hwc⟩:∃ wc,wc=v.alloc (ω #[U κ F'.k,U κ F'.s,U κ F'.l,β F'.wk,U κ F'.p] 50):=⟨_,rfl⟩
  rw[←hwc] at R9 R7 hv9 fw9 ⊢
  clear hwc
  obtain ⟨g9,hg9⟩:∃ g,g=v.heap.size:=⟨_,rfl⟩
  rw[←hg9] at R9 lf ⊢
  clear hg9
  obtain ⟨y0,y1,y2,y3,y4⟩:=bl R9
  obtain ⟨x0,x1,x2,x3,x4⟩:=bl R7
  obtain ⟨z0,z1,z2,z3,z4⟩:=bz R7
  go_region
  go_wp2_with fail
  refine bodyPost_ret (jt rfl rfl (R7.put5 _ _ _ _ _).drew rfl) rfl ?_
  exact ⟨rfl,(fw9.newerS (jx _ _ _ _ _ _ _) HG.out).drew,(hv9.past (jx _ _ _ _ _ _ _) HY.out).drew⟩
end
theorem lc (w:World) (D:Bd) (c:Cp):∃ v0 gm gc gr gt,v0=((((w.alloc (ω #[π (some ⟨D.p,0,none⟩),π (some ⟨D.t,0,none⟩),gu D.v] 42)).alloc (ω (cpA c) 30)).alloc (ω #[U μ 0,U μ 0,U μ 0,U μ 0,U μ 0,U μ 0,U μ 0,U μ 0,U μ 0,U μ 0,U μ 0,U μ 0,U μ 0,U μ 0,U μ 0,U μ 0,U κ 0,U μ 0,U μ 0,U μ 0,U μ 0,U μ 0,U μ 0,U μ 0,U μ 0] 30)).alloc (ω #[U κ 0,U κ 0,U κ 0,U κ 0,U κ 0,U κ 0,β false,U κ 0] 52))∧gm=w.heap.size∧gc=w.heap.size+1∧gr=w.heap.size+2∧gt=w.heap.size+3∧Hid (gm=w.heap.size+0∧gc=w.heap.size+1∧gr=w.heap.size+2∧gt=w.heap.size+3)∧Row v0 gm #[π (some ⟨D.p,0,none⟩),π (some ⟨D.t,0,none⟩),gu D.v] 42∧Row v0 gc (cpA c) 30∧Row v0 gr #[U μ 0,U μ 0,U μ 0,U μ 0,U μ 0,U μ 0,U μ 0,U μ 0,U μ 0,U μ 0,U μ 0,U μ 0,U μ 0,U μ 0,U μ 0,U μ 0,U κ 0,U μ 0,U μ 0,U μ 0,U μ 0,U μ 0,U μ 0,U μ 0,U μ 0] 30∧Row v0 gt #[U κ 0,U κ 0,U κ 0,U κ 0,U κ 0,U κ 0,β false,U κ 0] 52∧Fr bg w v0:=
 ⟨_,_,_,_,_,rfl,rfl,rfl,rfl,rfl,(show _∧_∧_∧_ from ⟨rfl,rfl,rfl,rfl⟩),(((ba _ _ _).alloc _).alloc _).alloc _,((dq (by simp)).alloc _).alloc _,(dq (by simp)).alloc _,dq (by simp),((((Fr.refl bg w).alloc _).alloc _).alloc _).alloc _⟩
theorem co (w:World) (D:Bd) (c:Cp) (o:Int) (a b d i:Nat) (vm sd fi se:Int):∃ v0 gm gc gi gs gr gt,v0=((((((w.alloc (ω #[π (some ⟨D.p,0,none⟩),π (some ⟨D.t,0,none⟩),gu D.v] 42)).alloc (ω (cpA c) 30)).alloc (ω #[U κ o,U κ (a:Int),U κ (b:Int),U κ (d:Int),U κ (i:Int)] 69)).alloc (ω #[U κ vm,U κ sd,U κ fi,U κ se] 63)).alloc (ω #[U μ 0,U μ 0,U μ 0,U μ 0,U μ 0,U μ 0,U μ 0,U μ 0,U μ 0,U μ 0,U μ 0,U μ 0,U μ 0,U μ 0,U μ 0,U μ 0,U κ 0,U μ 0,U μ 0,U μ 0,U μ 0,U μ 0,U μ 0,U μ 0,U μ 0] 30)).alloc (ω #[U κ 0,U κ 0,U κ 0,U κ 0,U κ 0,U κ 0,β false,U κ 0] 52))∧gm=w.heap.size∧gc=w.heap.size+1∧gi=w.heap.size+2∧gs=w.heap.size+3∧gr=w.heap.size+4∧gt=w.heap.size+5∧Hid (gm=w.heap.size+0∧gc=w.heap.size+1∧gi=w.heap.size+2∧gs=w.heap.size+3∧gr=w.heap.size+4∧gt=w.heap.size+5)∧Row v0 gm #[π (some ⟨D.p,0,none⟩),π (some ⟨D.t,0,none⟩),gu D.v] 42∧Row v0 gc (cpA c) 30∧Row v0 gi #[U κ o,U κ (a:Int),U κ (b:Int),U κ (d:Int),U κ (i:Int)] 69∧Row v0 gs #[U κ vm,U κ sd,U κ fi,U κ se] 63∧Row v0 gr #[U μ 0,U μ 0,U μ 0,U μ 0,U μ 0,U μ 0,U μ 0,U μ 0,U μ 0,U μ 0,U μ 0,U μ 0,U μ 0,U μ 0,U μ 0,U μ 0,U κ 0,U μ 0,U μ 0,U μ 0,U μ 0,U μ 0,U μ 0,U μ 0,U μ 0] 30∧Row v0 gt #[U κ 0,U κ 0,U κ 0,U κ 0,U κ 0,U κ 0,β false,U κ 0] 52∧Fr bg w v0:=
 ⟨_,_,_,_,_,_,_,rfl,rfl,rfl,rfl,rfl,rfl,rfl,(show _∧_∧_∧_∧_∧_ from ⟨rfl,rfl,rfl,rfl,rfl,rfl⟩),(((((ba _ _ _).alloc _).alloc _).alloc _).alloc _).alloc _,((((dq (by simp)).alloc _).alloc _).alloc _).alloc _,(((dq (by simp)).alloc _).alloc _).alloc _,((dq (by simp)).alloc _).alloc _,(dq (by simp)).alloc _,dq (by simp),((((((Fr.refl bg w).alloc _).alloc _).alloc _).alloc _).alloc _).alloc _⟩
theorem nxt (v1:World) (n:Cp):∃ v2 g,v2=(v1.alloc (ω #[U μ 0,U μ 0,U μ 0,U μ 0,U μ 0,U μ 0,U μ 0,U μ 0,U μ 0,U μ 0,U μ 0,U μ 0,U μ 0,U μ 0,U μ 0,U μ 0,U κ 0,U μ 0,U μ 0,U μ 0,U μ 0,U μ 0,U μ 0,U μ 0,U μ 0] 30)).setRow v1.heap.size (cpA n)∧g=v1.heap.size∧Row (v1.alloc (ω #[U μ 0,U μ 0,U μ 0,U μ 0,U μ 0,U μ 0,U μ 0,U μ 0,U μ 0,U μ 0,U μ 0,U μ 0,U μ 0,U μ 0,U μ 0,U μ 0,U κ 0,U μ 0,U μ 0,U μ 0,U μ 0,U μ 0,U μ 0,U μ 0,U μ 0] 30)) v1.heap.size #[U μ 0,U μ 0,U μ 0,U μ 0,U μ 0,U μ 0,U μ 0,U μ 0,U μ 0,U μ 0,U μ 0,U μ 0,U μ 0,U μ 0,U μ 0,U μ 0,U κ 0,U μ 0,U μ 0,U μ 0,U μ 0,U μ 0,U μ 0,U μ 0,U μ 0] 30∧Row v2 g (cpA n) 30∧Fr bg v1 v2:=
 ⟨_,_,rfl,rfl,ba _ _ _,(ba _ _ _).setRow,((Fr.refl bg v1).alloc _).newer (bb _ v1.heap.size _) (Nat.le_refl _)⟩
end Go.Proofs.YtibhbjbpodlpiaaGreat
