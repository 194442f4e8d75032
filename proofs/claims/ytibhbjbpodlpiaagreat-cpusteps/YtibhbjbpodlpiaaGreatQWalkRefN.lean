/-
  Contracts over the translation. No statement is proved here.
-/
import Derived.Test.YtibhbjbpodlpiaaGreatQWalkRefS
set_option maxRecDepth 100000
set_option maxHeartbeats 8000000
namespace Go.Proofs.YtibhbjbpodlpiaaGreat
open Go.RowKit
open Go.Value renaming int → U, bool → β, pointer → π, tuple → τ
open Go.IntKind renaming i64 → κ, u32 → μ
open Go.Obj renaming cells → ω
open Go.Ending renaming returned → ρ
open Go.Proofs.Tryz renaming prog → pQ
theorem rguest_walk (w:World) (p bf nf:Nat) (bs:List UInt8) (vm sd first second g page lvl:Int) (h:IsRef w p bf nf bs) (x:Res) (hx:ce bs nf second g 1=x) (hk:x.ft.k≠0) :
  Calls pQ 142 #[π (some ⟨p,0,none⟩),.agg #[U κ vm,U κ sd,U κ first,U κ second],U κ g,U κ page,U κ lvl] w fun e w'=>e=ρ (τ #[.agg #[β false,β false,U κ 0,U κ 0],.agg #[U κ x.ft.k,U κ x.ft.s,U κ x.ft.l,β true,U κ x.ft.p]])∧Fr bg w w':=by
 have f1:=Fr.refl bg w
 have t2:(x.ft.k != 0)=true:=by simp[hk]
 clear hk
 have hs:=fun w0 h0=>pu w0 p bf nf bs second g 1 h0
 rw[hx] at hs
 clear hx
 have r6:=ba w #[U κ vm,U κ sd,U κ first,U κ second] 63
 replace h:=h.alloc (ω #[U κ vm,U κ sd,U κ first,U κ second] 63)
 replace f1:=f1.alloc (ω #[U κ vm,U κ sd,U κ first,U κ second] 63)
 have r10:=bq w (ω #[U κ vm,U κ sd,U κ first,U κ second] 63) #[β false,β false,U κ 0,U κ 0] 77
 replace r6:=r6.alloc (ω #[β false,β false,U κ 0,U κ 0] 77)
 replace h:=h.alloc (ω #[β false,β false,U κ 0,U κ 0] 77)
 replace f1:=f1.alloc (ω #[β false,β false,U κ 0,U κ 0] 77)
 have r11:=dt w (ω #[U κ vm,U κ sd,U κ first,U κ second] 63) (ω #[β false,β false,U κ 0,U κ 0] 77) #[U κ 0,U κ 0,U κ 0,β false,U κ 0] 50
 replace r6:=r6.alloc (ω #[U κ 0,U κ 0,U κ 0,β false,U κ 0] 50)
 replace r10:=r10.alloc (ω #[U κ 0,U κ 0,U κ 0,β false,U κ 0] 50)
 replace h:=h.alloc (ω #[U κ 0,U κ 0,U κ 0,β false,U κ 0] 50)
 replace f1:=f1.alloc (ω #[U κ 0,U κ 0,U κ 0,β false,U κ 0] 50)
 obtain ⟨c0x0,c0x1,c0x2,c0x3⟩:=cl r6
 go_enter Tryz.func142,Tryz.ntmps142
 go_wp2_with fail
 refine(hs _ h).mono ?_
 rintro e v1 ⟨rfl,g1⟩
 clear c0x0 c0x1 c0x2 c0x3
 replace r6:=r6.keep g1 (fun h=>h)
 replace r10:=r10.keep g1 (fun h=>h)
 replace r11:=r11.keep g1 (fun h=>h)
 replace h:=h.keep g1 (fun h=>h) (fun h=>h)
 replace f1:=f1.trans g1
 clear g1
 have l1:=r11.lt
 have r14:=ba v1 #[U κ x.ft.k,U κ x.ft.s,U κ x.ft.l,β true,U κ x.ft.p] 50
 replace r6:=r6.alloc (ω #[U κ x.ft.k,U κ x.ft.s,U κ x.ft.l,β true,U κ x.ft.p] 50)
 replace r10:=r10.alloc (ω #[U κ x.ft.k,U κ x.ft.s,U κ x.ft.l,β true,U κ x.ft.p] 50)
 replace r11:=r11.alloc (ω #[U κ x.ft.k,U κ x.ft.s,U κ x.ft.l,β true,U κ x.ft.p] 50)
 replace h:=h.alloc (ω #[U κ x.ft.k,U κ x.ft.s,U κ x.ft.l,β true,U κ x.ft.p] 50)
 replace f1:=f1.alloc (ω #[U κ x.ft.k,U κ x.ft.s,U κ x.ft.l,β true,U κ x.ft.p] 50)
 obtain ⟨c1x0,c1x1,c1x2,c1x3,c1x4⟩:=bl r14
 obtain ⟨c2x0,c2x1,c2x2,c2x3⟩:=cl r10
 obtain ⟨z3x0,z3x1,z3x2,z3x3⟩:=db r10
 obtain ⟨c4x0,c4x1,c4x2,c4x3,c4x4⟩:=bl r11
 obtain ⟨z5x0,z5x1,z5x2,z5x3,z5x4⟩:=bz r11
 go_wp2_with fail
 go_region
 go_wp2_with fail
 refine bodyPost_ret (lk rfl rfl ((r10.put4 _ _ _ _).past5 (by omega) _ _ _ _ _).drew rfl rfl ((r11.past4 (by omega) _ _ _ _).put5 _ _ _ _ _).drew rfl) rfl ?_
 exact ⟨rfl,((f1.put4 (Or.inl (by omega)) _ _ _ _).put5 (Or.inl (by omega)) _ _ _ _ _).drew⟩
theorem rguest_bad (w:World) (p bf nf:Nat) (bs:List UInt8) (vm sd first second g page lvl:Int) (h:IsRef w p bf nf bs) (x:Res) (hx:ce bs nf second g 1=x) (hp:isP page=true) (hl:lvl=0∨lvl=1) (hk:x.ft.k=0) (hj:jq bs nf x.fr page lvl≠0) :
  Calls pQ 142 #[π (some ⟨p,0,none⟩),.agg #[U κ vm,U κ sd,U κ first,U κ second],U κ g,U κ page,U κ lvl] w fun e w'=>e=ρ (τ #[.agg #[β false,β false,U κ 0,U κ 0],.agg #[U κ (jq bs nf x.fr page lvl),U κ 1,U κ lvl,β false,U κ page]])∧Fr bg w w':=by
 have f1:=Fr.refl bg w
 have t2:(x.ft.k != 0)=false:=by simp[hk]
 have t3:((jq bs nf x.fr page lvl) != 0)=true:=by simp[hj]
 clear hk
 have hs:=fun w0 h0=>pu w0 p bf nf bs second g 1 h0
 rw[hx] at hs
 clear hx
 have r6:=ba w #[U κ vm,U κ sd,U κ first,U κ second] 63
 replace h:=h.alloc (ω #[U κ vm,U κ sd,U κ first,U κ second] 63)
 replace f1:=f1.alloc (ω #[U κ vm,U κ sd,U κ first,U κ second] 63)
 have r10:=bq w (ω #[U κ vm,U κ sd,U κ first,U κ second] 63) #[β false,β false,U κ 0,U κ 0] 77
 replace r6:=r6.alloc (ω #[β false,β false,U κ 0,U κ 0] 77)
 replace h:=h.alloc (ω #[β false,β false,U κ 0,U κ 0] 77)
 replace f1:=f1.alloc (ω #[β false,β false,U κ 0,U κ 0] 77)
 have r11:=dt w (ω #[U κ vm,U κ sd,U κ first,U κ second] 63) (ω #[β false,β false,U κ 0,U κ 0] 77) #[U κ 0,U κ 0,U κ 0,β false,U κ 0] 50
 replace r6:=r6.alloc (ω #[U κ 0,U κ 0,U κ 0,β false,U κ 0] 50)
 replace r10:=r10.alloc (ω #[U κ 0,U κ 0,U κ 0,β false,U κ 0] 50)
 replace h:=h.alloc (ω #[U κ 0,U κ 0,U κ 0,β false,U κ 0] 50)
 replace f1:=f1.alloc (ω #[U κ 0,U κ 0,U κ 0,β false,U κ 0] 50)
 obtain ⟨c0x0,c0x1,c0x2,c0x3⟩:=cl r6
 go_enter Tryz.func142,Tryz.ntmps142
 go_wp2_with fail
 refine(hs _ h).mono ?_
 rintro e v1 ⟨rfl,g1⟩
 clear c0x0 c0x1 c0x2 c0x3
 replace r6:=r6.keep g1 (fun h=>h)
 replace r10:=r10.keep g1 (fun h=>h)
 replace r11:=r11.keep g1 (fun h=>h)
 replace h:=h.keep g1 (fun h=>h) (fun h=>h)
 replace f1:=f1.trans g1
 clear g1
 have r14:=ba v1 #[U κ x.ft.k,U κ x.ft.s,U κ x.ft.l,β x.ft.wk,U κ x.ft.p] 50
 replace r6:=r6.alloc (ω #[U κ x.ft.k,U κ x.ft.s,U κ x.ft.l,β x.ft.wk,U κ x.ft.p] 50)
 replace r10:=r10.alloc (ω #[U κ x.ft.k,U κ x.ft.s,U κ x.ft.l,β x.ft.wk,U κ x.ft.p] 50)
 replace r11:=r11.alloc (ω #[U κ x.ft.k,U κ x.ft.s,U κ x.ft.l,β x.ft.wk,U κ x.ft.p] 50)
 replace h:=h.alloc (ω #[U κ x.ft.k,U κ x.ft.s,U κ x.ft.l,β x.ft.wk,U κ x.ft.p] 50)
 replace f1:=f1.alloc (ω #[U κ x.ft.k,U κ x.ft.s,U κ x.ft.l,β x.ft.wk,U κ x.ft.p] 50)
 obtain ⟨c1x0,c1x1,c1x2,c1x3,c1x4⟩:=bl r14
 go_wp2_with fail
 refine(ve _ _ _ _ _ _ _ _ h hp hl hj).mono ?_
 rintro e v2 ⟨rfl,g2⟩
 clear c1x0 c1x1 c1x2 c1x3 c1x4
 replace r6:=r6.keep g2 (fun h=>h)
 replace r10:=r10.keep g2 (fun h=>h)
 replace r11:=r11.keep g2 (fun h=>h)
 replace r14:=r14.keep g2 (fun h=>h)
 replace h:=h.keep g2 (fun h=>h) (fun h=>h)
 replace f1:=f1.trans g2
 clear g2
 have r15:=ba v2 #[β false,β false,U κ 0,U κ 0] 77
 replace r6:=r6.alloc (ω #[β false,β false,U κ 0,U κ 0] 77)
 replace r10:=r10.alloc (ω #[β false,β false,U κ 0,U κ 0] 77)
 replace r11:=r11.alloc (ω #[β false,β false,U κ 0,U κ 0] 77)
 replace r14:=r14.alloc (ω #[β false,β false,U κ 0,U κ 0] 77)
 replace h:=h.alloc (ω #[β false,β false,U κ 0,U κ 0] 77)
 replace f1:=f1.alloc (ω #[β false,β false,U κ 0,U κ 0] 77)
 obtain ⟨c2x0,c2x1,c2x2,c2x3⟩:=cl r10
 obtain ⟨z3x0,z3x1,z3x2,z3x3⟩:=db r10
 obtain ⟨c4x0,c4x1,c4x2,c4x3,c4x4⟩:=bl r11
 obtain ⟨z5x0,z5x1,z5x2,z5x3,z5x4⟩:=bz r11
 go_wp2_with fail
 refine bodyPost_ret (lk rfl rfl ((r10.put4 _ _ _ _).past5 (by omega) _ _ _ _ _) rfl rfl ((r11.past4 (by omega) _ _ _ _).put5 _ _ _ _ _) rfl) rfl ?_
 exact ⟨rfl,((f1.put4 (Or.inl (by omega)) _ _ _ _).put5 (Or.inl (by omega)) _ _ _ _ _)⟩
theorem rguest_ok (w:World) (p bf nf:Nat) (bs:List UInt8) (vm sd first second g page lvl:Int) (h:IsRef w p bf nf bs) (x:Res) (hx:ce bs nf second g 1=x) (hp:isP page=true) (hl:lvl=0∨lvl=1) (hk:x.ft.k=0) (hj:jq bs nf x.fr page lvl=0) :
  Calls pQ 142 #[π (some ⟨p,0,none⟩),.agg #[U κ vm,U κ sd,U κ first,U κ second],U κ g,U κ page,U κ lvl] w fun e w'=>e=ρ (τ #[.agg #[β true,β (decide (lvl=1)),U κ (dr (ew bs x.fr page lvl)),U κ (df (ew bs x.fr page lvl))],.agg #[U κ 0,U κ 0,U κ 0,β false,U κ 0]])∧Fr bg w w':=by
 have f1:=Fr.refl bg w
 have t2:(x.ft.k != 0)=false:=by simp[hk]
 clear hk
 have hs:=fun w0 h0=>pu w0 p bf nf bs second g 1 h0
 rw[hx] at hs
 clear hx
 have r6:=ba w #[U κ vm,U κ sd,U κ first,U κ second] 63
 replace h:=h.alloc (ω #[U κ vm,U κ sd,U κ first,U κ second] 63)
 replace f1:=f1.alloc (ω #[U κ vm,U κ sd,U κ first,U κ second] 63)
 have r10:=bq w (ω #[U κ vm,U κ sd,U κ first,U κ second] 63) #[β false,β false,U κ 0,U κ 0] 77
 replace r6:=r6.alloc (ω #[β false,β false,U κ 0,U κ 0] 77)
 replace h:=h.alloc (ω #[β false,β false,U κ 0,U κ 0] 77)
 replace f1:=f1.alloc (ω #[β false,β false,U κ 0,U κ 0] 77)
 have r11:=dt w (ω #[U κ vm,U κ sd,U κ first,U κ second] 63) (ω #[β false,β false,U κ 0,U κ 0] 77) #[U κ 0,U κ 0,U κ 0,β false,U κ 0] 50
 replace r6:=r6.alloc (ω #[U κ 0,U κ 0,U κ 0,β false,U κ 0] 50)
 replace r10:=r10.alloc (ω #[U κ 0,U κ 0,U κ 0,β false,U κ 0] 50)
 replace h:=h.alloc (ω #[U κ 0,U κ 0,U κ 0,β false,U κ 0] 50)
 replace f1:=f1.alloc (ω #[U κ 0,U κ 0,U κ 0,β false,U κ 0] 50)
 obtain ⟨c0x0,c0x1,c0x2,c0x3⟩:=cl r6
 go_enter Tryz.func142,Tryz.ntmps142
 go_wp2_with fail
 refine(hs _ h).mono ?_
 rintro e v1 ⟨rfl,g1⟩
 clear c0x0 c0x1 c0x2 c0x3
 replace r6:=r6.keep g1 (fun h=>h)
 replace r10:=r10.keep g1 (fun h=>h)
 replace r11:=r11.keep g1 (fun h=>h)
 replace h:=h.keep g1 (fun h=>h) (fun h=>h)
 replace f1:=f1.trans g1
 clear g1
 have r14:=ba v1 #[U κ x.ft.k,U κ x.ft.s,U κ x.ft.l,β x.ft.wk,U κ x.ft.p] 50
 replace r6:=r6.alloc (ω #[U κ x.ft.k,U κ x.ft.s,U κ x.ft.l,β x.ft.wk,U κ x.ft.p] 50)
 replace r10:=r10.alloc (ω #[U κ x.ft.k,U κ x.ft.s,U κ x.ft.l,β x.ft.wk,U κ x.ft.p] 50)
 replace r11:=r11.alloc (ω #[U κ x.ft.k,U κ x.ft.s,U κ x.ft.l,β x.ft.wk,U κ x.ft.p] 50)
 replace h:=h.alloc (ω #[U κ x.ft.k,U κ x.ft.s,U κ x.ft.l,β x.ft.wk,U κ x.ft.p] 50)
 replace f1:=f1.alloc (ω #[U κ x.ft.k,U κ x.ft.s,U κ x.ft.l,β x.ft.wk,U κ x.ft.p] 50)
 obtain ⟨c1x0,c1x1,c1x2,c1x3,c1x4⟩:=bl r14
 go_wp2_with fail
 refine(ss _ _ _ _ _ _ _ _ h hp hl hj).mono ?_
 rintro e v2 ⟨rfl,g2⟩
 clear c1x0 c1x1 c1x2 c1x3 c1x4
 replace r6:=r6.keep g2 (fun h=>h)
 replace r10:=r10.keep g2 (fun h=>h)
 replace r11:=r11.keep g2 (fun h=>h)
 replace r14:=r14.keep g2 (fun h=>h)
 replace h:=h.keep g2 (fun h=>h) (fun h=>h)
 replace f1:=f1.trans g2
 clear g2
 have r15:=ba v2 #[β true,β (decide (lvl=1)),U κ (dr (ew bs x.fr page lvl)),U κ (df (ew bs x.fr page lvl))] 77
 replace r6:=r6.alloc (ω #[β true,β (decide (lvl=1)),U κ (dr (ew bs x.fr page lvl)),U κ (df (ew bs x.fr page lvl))] 77)
 replace r10:=r10.alloc (ω #[β true,β (decide (lvl=1)),U κ (dr (ew bs x.fr page lvl)),U κ (df (ew bs x.fr page lvl))] 77)
 replace r11:=r11.alloc (ω #[β true,β (decide (lvl=1)),U κ (dr (ew bs x.fr page lvl)),U κ (df (ew bs x.fr page lvl))] 77)
 replace r14:=r14.alloc (ω #[β true,β (decide (lvl=1)),U κ (dr (ew bs x.fr page lvl)),U κ (df (ew bs x.fr page lvl))] 77)
 replace h:=h.alloc (ω #[β true,β (decide (lvl=1)),U κ (dr (ew bs x.fr page lvl)),U κ (df (ew bs x.fr page lvl))] 77)
 replace f1:=f1.alloc (ω #[β true,β (decide (lvl=1)),U κ (dr (ew bs x.fr page lvl)),U κ (df (ew bs x.fr page lvl))] 77)
 obtain ⟨c2x0,c2x1,c2x2,c2x3⟩:=cl r15
 obtain ⟨c3x0,c3x1,c3x2,c3x3⟩:=cl r10
 obtain ⟨z4x0,z4x1,z4x2,z4x3⟩:=db r10
 obtain ⟨c5x0,c5x1,c5x2,c5x3,c5x4⟩:=bl r11
 obtain ⟨z6x0,z6x1,z6x2,z6x3,z6x4⟩:=bz r11
 go_wp2_with fail
 refine bodyPost_ret (lk rfl rfl ((r10.put4 _ _ _ _).past5 (by omega) _ _ _ _ _) rfl rfl ((r11.past4 (by omega) _ _ _ _).put5 _ _ _ _ _) rfl) rfl ?_
 exact ⟨rfl,((f1.put4 (Or.inl (by omega)) _ _ _ _).put5 (Or.inl (by omega)) _ _ _ _ _)⟩
theorem rguest_no (w:World) (p bf nf:Nat) (bs:List UInt8) (vm sd first second g page lvl:Int) (h:IsRef w p bf nf bs) (hp:isP page=true) (hl:lvl=0∨lvl=1) (hk:(ci bs nf second g page lvl).ft.k≠0) :
  Calls pQ 142 #[π (some ⟨p,0,none⟩),.agg #[U κ vm,U κ sd,U κ first,U κ second],U κ g,U κ page,U κ lvl] w fun e w'=>e=ρ (τ #[.agg #[β false,β false,U κ 0,U κ 0],.agg #[U κ (ci bs nf second g page lvl).ft.k,U κ (ci bs nf second g page lvl).ft.s,U κ (ci bs nf second g page lvl).ft.l,β (ci bs nf second g page lvl).ft.wk,U κ (ci bs nf second g page lvl).ft.p]])∧Fr bg w w':=by
 rcases js bs nf second g page lvl with ⟨h1,e⟩ | ⟨h1,h2,e⟩ | ⟨_,_,e⟩
 ·rw[e]
  rcases nj bs nf second g with ⟨h3,e'⟩ | ⟨h3,e'⟩
  ·rw[e'];exact rguest_walk w p bf nf bs vm sd first second g page lvl h (ce bs nf second g 1) rfl h3
  ·rw[e'] at h1;exact absurd h3 h1
 ·rw[e]
  rcases nj bs nf second g with ⟨h3,e'⟩ | ⟨h3,e'⟩
  ·rw[e'] at h1;exact absurd h1 h3
  ·rw[e'] at h2 ⊢;exact rguest_bad w p bf nf bs vm sd first second g page lvl h _ rfl hp hl h3 h2
 ·rw[e] at hk;exact absurd rfl hk
theorem m9 (w:World) (p bf nf:Nat) (bs:List UInt8) (vm sd first second g page lvl:Int) (h:IsRef w p bf nf bs) (hp:isP page=true) (hl:lvl=0∨lvl=1) (hk:(ci bs nf second g page lvl).ft.k=0) :
  Calls pQ 142 #[π (some ⟨p,0,none⟩),.agg #[U κ vm,U κ sd,U κ first,U κ second],U κ g,U κ page,U κ lvl] w fun e w'=>e=ρ (τ #[.agg #[β true,β (decide (lvl=1)),U κ (ci bs nf second g page lvl).ri,U κ (ci bs nf second g page lvl).fr],.agg #[U κ 0,U κ 0,U κ 0,β false,U κ 0]])∧Fr bg w w':=by
 rcases js bs nf second g page lvl with ⟨h1,e⟩ | ⟨h1,h2,e⟩ | ⟨h1,h2,e⟩
 ·rw[e] at hk;exact absurd hk h1
 ·rw[e] at hk;exact absurd hk h2
 ·rw[e]
  rcases nj bs nf second g with ⟨h3,e'⟩ | ⟨h3,e'⟩
  ·rw[e'] at h1;exact absurd h1 h3
  ·rw[e'] at h2 ⊢;exact rguest_ok w p bf nf bs vm sd first second g page lvl h _ rfl hp hl h3 h2
theorem rnested_lo (w:World) (p:Nat) (vm sd first second page want:Int) (hp:page<0) :
  Calls pQ 126 #[π (some ⟨p,0,none⟩),.agg #[U κ vm,U κ sd,U κ first,U κ second],U κ page,U κ want] w fun e w'=>e=ρ (τ #[U κ 0,U κ 0,.agg #[U κ 3,U κ 0,U κ 0,β false,U κ 0]])∧Fr bg w w':=by
 have t0:decide (page<0)=true:=decide_eq_true hp
 go_enter Tryz.func126,Tryz.ntmps126
 go_wp2_with fail
 refine bodyPost_ret (gk rfl rfl (bq _ _ _ _) rfl) rfl ?_
 exact ⟨rfl,((Fr.refl _ _).alloc _).alloc _⟩
theorem rnested_hi (w:World) (p:Nat) (vm sd first second page want:Int) (h0:¬ page<0) (hp:1023<page) :
  Calls pQ 126 #[π (some ⟨p,0,none⟩),.agg #[U κ vm,U κ sd,U κ first,U κ second],U κ page,U κ want] w fun e w'=>e=ρ (τ #[U κ 0,U κ 0,.agg #[U κ 3,U κ 0,U κ 0,β false,U κ 0]])∧Fr bg w w':=by
 have t0:decide (page<0)=false:=decide_eq_false h0
 have t1:decide (1023<page)=true:=decide_eq_true hp
 go_enter Tryz.func126,Tryz.ntmps126
 go_wp2_with fail
 refine bodyPost_ret (gk rfl rfl (bq _ _ _ _) rfl) rfl ?_
 exact ⟨rfl,((Fr.refl _ _).alloc _).alloc _⟩
theorem rnested_w (w:World) (p:Nat) (vm sd first second page want:Int) (h0:¬ page<0) (h1:¬ 1023<page) (hw:isR want=false) :
  Calls pQ 126 #[π (some ⟨p,0,none⟩),.agg #[U κ vm,U κ sd,U κ first,U κ second],U κ page,U κ want] w fun e w'=>e=ρ (τ #[U κ 0,U κ 0,.agg #[U κ 3,U κ 0,U κ 0,β false,U κ 0]])∧Fr bg w w':=by
 have t0:decide (page<0)=false:=decide_eq_false h0
 have t1:decide (1023<page)=false:=decide_eq_false h1
 have hn:¬ (want=1∨want=2∨want=4):=fun hh=>by rw[sj.2 hh] at hw;exact absurd hw (by decide)
 have q1:(want != 1)=true:=by simp;omega
 have q2:(want != 2)=true:=by simp;omega
 have q3:(want != 4)=true:=by simp;omega
 clear hw hn
 go_enter Tryz.func126,Tryz.ntmps126
 go_wp2_with fail
 refine bodyPost_ret (gk rfl rfl (bq _ _ _ _) rfl) rfl ?_
 exact ⟨rfl,((Fr.refl _ _).alloc _).alloc _⟩
theorem rnested_plain (w:World) (p bf nf:Nat) (bs:List UInt8) (vm sd first second page want:Int) (h:IsRef w p bf nf bs) (hp:isP page=true) (hw:isR want=true) (hf:first<0) (x:Res) (hx:ce bs nf second page want=x) :
  Calls pQ 126 #[π (some ⟨p,0,none⟩),.agg #[U κ vm,U κ sd,U κ first,U κ second],U κ page,U κ want] w fun e w'=>e=ρ (τ #[U κ x.fr,U κ x.ri,.agg #[U κ x.ft.k,U κ x.ft.s,U κ x.ft.l,β x.ft.wk,U κ x.ft.p]])∧Fr bg w w':=by
 have t0:decide (page<0)=false:=decide_eq_false (by have:=jp.1 hp;omega)
 have t1:decide (1023<page)=false:=decide_eq_false (by have:=jp.1 hp;omega)
 have hw3:(want != 1)=false∨((want != 1)=true∧(want != 2)=false)∨((want != 1)=true∧(want != 2)=true∧(want != 4)=false):=by
  rcases sj.1 hw with rfl | rfl | rfl <;> simp
 clear hw
 have t2:decide (first<0)=true:=decide_eq_true hf
 have hs:=fun w0 h0=>pu w0 p bf nf bs second page want h0
 rw[hx] at hs
 clear hx hf
 have f1:=Fr.refl bg w
 have r5:=ba w #[U κ vm,U κ sd,U κ first,U κ second] 63
 replace h:=h.alloc (ω #[U κ vm,U κ sd,U κ first,U κ second] 63)
 replace f1:=f1.alloc (ω #[U κ vm,U κ sd,U κ first,U κ second] 63)
 have r10:=bq w (ω #[U κ vm,U κ sd,U κ first,U κ second] 63) #[U κ 0,U κ 0,U κ 0,β false,U κ 0] 50
 replace r5:=r5.alloc (ω #[U κ 0,U κ 0,U κ 0,β false,U κ 0] 50)
 replace h:=h.alloc (ω #[U κ 0,U κ 0,U κ 0,β false,U κ 0] 50)
 replace f1:=f1.alloc (ω #[U κ 0,U κ 0,U κ 0,β false,U κ 0] 50)
 obtain ⟨c0x0,c0x1,c0x2,c0x3⟩:=cl r5
 rcases hw3 with q1 | ⟨q1,q2⟩ | ⟨q1,q2,q3⟩
 all_goals
  go_enter Tryz.func126,Tryz.ntmps126
  go_wp2_with fail
  refine(hs _ h).mono ?_
  rintro e v1 ⟨rfl,g1⟩
  clear c0x0 c0x1 c0x2 c0x3
  replace r5:=r5.keep g1 (fun h=>h)
  replace r10:=r10.keep g1 (fun h=>h)
  replace h:=h.keep g1 (fun h=>h) (fun h=>h)
  replace f1:=f1.trans g1
  clear g1
  obtain ⟨c1x0,c1x1,c1x2,c1x3,c1x4⟩:=bl r10
  obtain ⟨z2x0,z2x1,z2x2,z2x3,z2x4⟩:=bz r10
  go_wp2_with fail
  refine bodyPost_ret (gk rfl rfl (r10.put5 _ _ _ _ _) rfl) rfl ?_
  exact ⟨rfl,f1.put5 (Or.inl (by omega)) _ _ _ _ _⟩
theorem rnested_g0 (w:World) (p bf nf:Nat) (bs:List UInt8) (vm sd first second page want:Int) (h:IsRef w p bf nf bs) (hp:isP page=true) (hw:isR want=true) (hf:¬ first<0) (x:Res) (hx:ci bs nf second first page 0=x) (hk:x.ft.k≠0) :
  Calls pQ 126 #[π (some ⟨p,0,none⟩),.agg #[U κ vm,U κ sd,U κ first,U κ second],U κ page,U κ want] w fun e w'=>e=ρ (τ #[U κ 0,U κ 0,.agg #[U κ x.ft.k,U κ x.ft.s,U κ x.ft.l,β x.ft.wk,U κ x.ft.p]])∧Fr bg w w':=by
 have t0:decide (page<0)=false:=decide_eq_false (by have:=jp.1 hp;omega)
 have t1:decide (1023<page)=false:=decide_eq_false (by have:=jp.1 hp;omega)
 have hw3:(want != 1)=false∨((want != 1)=true∧(want != 2)=false)∨((want != 1)=true∧(want != 2)=true∧(want != 4)=false):=by
  rcases sj.1 hw with rfl | rfl | rfl <;> simp
 clear hw
 have t2:decide (first<0)=false:=decide_eq_false (by omega)
 have hs:=fun w0 h0=>rguest_no w0 p bf nf bs vm sd first second first page 0 h0 hp (Or.inl rfl) (by rw[hx];exact hk)
 rw[hx] at hs
 have t3:(x.ft.k != 0)=true:=by simp[hk]
 clear hx hf hk
 have f1:=Fr.refl bg w
 have r5:=ba w #[U κ vm,U κ sd,U κ first,U κ second] 63
 replace h:=h.alloc (ω #[U κ vm,U κ sd,U κ first,U κ second] 63)
 replace f1:=f1.alloc (ω #[U κ vm,U κ sd,U κ first,U κ second] 63)
 have r10:=bq w (ω #[U κ vm,U κ sd,U κ first,U κ second] 63) #[U κ 0,U κ 0,U κ 0,β false,U κ 0] 50
 replace r5:=r5.alloc (ω #[U κ 0,U κ 0,U κ 0,β false,U κ 0] 50)
 replace h:=h.alloc (ω #[U κ 0,U κ 0,U κ 0,β false,U κ 0] 50)
 replace f1:=f1.alloc (ω #[U κ 0,U κ 0,U κ 0,β false,U κ 0] 50)
 obtain ⟨c0x0,c0x1,c0x2,c0x3⟩:=cl r5
 rcases hw3 with q1 | ⟨q1,q2⟩ | ⟨q1,q2,q3⟩
 all_goals
  go_enter Tryz.func126,Tryz.ntmps126
  go_wp2_with fail
  refine(hs _ h).mono ?_
  rintro e v1 ⟨rfl,g1⟩
  clear c0x0 c0x1 c0x2 c0x3
  replace r5:=r5.keep g1 (fun h=>h)
  replace r10:=r10.keep g1 (fun h=>h)
  replace h:=h.keep g1 (fun h=>h) (fun h=>h)
  replace f1:=f1.trans g1
  clear g1
  have r11:=ba v1 #[β false,β false,U κ 0,U κ 0] 77
  replace r5:=r5.alloc (ω #[β false,β false,U κ 0,U κ 0] 77)
  replace r10:=r10.alloc (ω #[β false,β false,U κ 0,U κ 0] 77)
  replace h:=h.alloc (ω #[β false,β false,U κ 0,U κ 0] 77)
  replace f1:=f1.alloc (ω #[β false,β false,U κ 0,U κ 0] 77)
  have r12:=bq v1 (ω #[β false,β false,U κ 0,U κ 0] 77) #[U κ x.ft.k,U κ x.ft.s,U κ x.ft.l,β x.ft.wk,U κ x.ft.p] 50
  replace r5:=r5.alloc (ω #[U κ x.ft.k,U κ x.ft.s,U κ x.ft.l,β x.ft.wk,U κ x.ft.p] 50)
  replace r10:=r10.alloc (ω #[U κ x.ft.k,U κ x.ft.s,U κ x.ft.l,β x.ft.wk,U κ x.ft.p] 50)
  replace r11:=r11.alloc (ω #[U κ x.ft.k,U κ x.ft.s,U κ x.ft.l,β x.ft.wk,U κ x.ft.p] 50)
  replace h:=h.alloc (ω #[U κ x.ft.k,U κ x.ft.s,U κ x.ft.l,β x.ft.wk,U κ x.ft.p] 50)
  replace f1:=f1.alloc (ω #[U κ x.ft.k,U κ x.ft.s,U κ x.ft.l,β x.ft.wk,U κ x.ft.p] 50)
  obtain ⟨c1x0,c1x1,c1x2,c1x3,c1x4⟩:=bl r12
  obtain ⟨c2x0,c2x1,c2x2,c2x3,c2x4⟩:=bl r10
  obtain ⟨z3x0,z3x1,z3x2,z3x3,z3x4⟩:=bz r10
  go_wp2_with fail
  go_region
  go_wp2_with fail
  refine bodyPost_ret (gk rfl rfl (r10.put5 _ _ _ _ _).drew rfl) rfl ?_
  exact ⟨rfl,(f1.put5 (Or.inl (by omega)) _ _ _ _ _).drew⟩
theorem rnested_g1 (w:World) (p bf nf:Nat) (bs:List UInt8) (vm sd first second page want:Int) (h:IsRef w p bf nf bs) (hp:isP page=true) (hw:isR want=true) (hf:¬ first<0) (x:Res) (hx:ci bs nf second first page 0=x) (hk:x.ft.k=0) (y:Res) (hy:ci bs nf second x.fr page 1=y) (hj:y.ft.k≠0) :
  Calls pQ 126 #[π (some ⟨p,0,none⟩),.agg #[U κ vm,U κ sd,U κ first,U κ second],U κ page,U κ want] w fun e w'=>e=ρ (τ #[U κ 0,U κ 0,.agg #[U κ y.ft.k,U κ y.ft.s,U κ y.ft.l,β y.ft.wk,U κ y.ft.p]])∧Fr bg w w':=by
 have t0:decide (page<0)=false:=decide_eq_false (by have:=jp.1 hp;omega)
 have t1:decide (1023<page)=false:=decide_eq_false (by have:=jp.1 hp;omega)
 have hw3:(want != 1)=false∨((want != 1)=true∧(want != 2)=false)∨((want != 1)=true∧(want != 2)=true∧(want != 4)=false):=by
  rcases sj.1 hw with rfl | rfl | rfl <;> simp
 clear hw
 have t2:decide (first<0)=false:=decide_eq_false (by omega)
 have hs:=fun w0 h0=>m9 w0 p bf nf bs vm sd first second first page 0 h0 hp (Or.inl rfl) (by rw[hx];exact hk)
 rw[hx] at hs
 clear hx hf hk
 have hs2:=fun w0 h0=>rguest_no w0 p bf nf bs vm sd first second x.fr page 1 h0 hp (Or.inr rfl) (by rw[hy];exact hj)
 rw[hy] at hs2
 have t3:(y.ft.k != 0)=true:=by simp[hj]
 clear hy hj
 have f1:=Fr.refl bg w
 have r5:=ba w #[U κ vm,U κ sd,U κ first,U κ second] 63
 replace h:=h.alloc (ω #[U κ vm,U κ sd,U κ first,U κ second] 63)
 replace f1:=f1.alloc (ω #[U κ vm,U κ sd,U κ first,U κ second] 63)
 have r10:=bq w (ω #[U κ vm,U κ sd,U κ first,U κ second] 63) #[U κ 0,U κ 0,U κ 0,β false,U κ 0] 50
 replace r5:=r5.alloc (ω #[U κ 0,U κ 0,U κ 0,β false,U κ 0] 50)
 replace h:=h.alloc (ω #[U κ 0,U κ 0,U κ 0,β false,U κ 0] 50)
 replace f1:=f1.alloc (ω #[U κ 0,U κ 0,U κ 0,β false,U κ 0] 50)
 obtain ⟨c0x0,c0x1,c0x2,c0x3⟩:=cl r5
 rcases hw3 with q1 | ⟨q1,q2⟩ | ⟨q1,q2,q3⟩
 all_goals
  go_enter Tryz.func126,Tryz.ntmps126
  go_wp2_with fail
  refine(hs _ h).mono ?_
  rintro e v1 ⟨rfl,g1⟩
  clear c0x0 c0x1 c0x2 c0x3
  replace r5:=r5.keep g1 (fun h=>h)
  replace r10:=r10.keep g1 (fun h=>h)
  replace h:=h.keep g1 (fun h=>h) (fun h=>h)
  replace f1:=f1.trans g1
  clear g1
  have r11:=ba v1 #[β true,β false,U κ x.ri,U κ x.fr] 77
  replace r5:=r5.alloc (ω #[β true,β false,U κ x.ri,U κ x.fr] 77)
  replace r10:=r10.alloc (ω #[β true,β false,U κ x.ri,U κ x.fr] 77)
  replace h:=h.alloc (ω #[β true,β false,U κ x.ri,U κ x.fr] 77)
  replace f1:=f1.alloc (ω #[β true,β false,U κ x.ri,U κ x.fr] 77)
  have r12:=bq v1 (ω #[β true,β false,U κ x.ri,U κ x.fr] 77) #[U κ 0,U κ 0,U κ 0,β false,U κ 0] 50
  replace r5:=r5.alloc (ω #[U κ 0,U κ 0,U κ 0,β false,U κ 0] 50)
  replace r10:=r10.alloc (ω #[U κ 0,U κ 0,U κ 0,β false,U κ 0] 50)
  replace r11:=r11.alloc (ω #[U κ 0,U κ 0,U κ 0,β false,U κ 0] 50)
  replace h:=h.alloc (ω #[U κ 0,U κ 0,U κ 0,β false,U κ 0] 50)
  replace f1:=f1.alloc (ω #[U κ 0,U κ 0,U κ 0,β false,U κ 0] 50)
  obtain ⟨c1x0,c1x1,c1x2,c1x3⟩:=cl r5
  obtain ⟨c2x0,c2x1,c2x2,c2x3⟩:=cl r11
  obtain ⟨c3x0,c3x1,c3x2,c3x3,c3x4⟩:=bl r12
  go_wp2_with fail
  refine(hs2 _ h).mono ?_
  rintro e v2 ⟨rfl,g2⟩
  clear c1x0 c1x1 c1x2 c1x3 c2x0 c2x1 c2x2 c2x3 c3x0 c3x1 c3x2 c3x3 c3x4
  replace r5:=r5.keep g2 (fun h=>h)
  replace r10:=r10.keep g2 (fun h=>h)
  replace r11:=r11.keep g2 (fun h=>h)
  replace r12:=r12.keep g2 (fun h=>h)
  replace h:=h.keep g2 (fun h=>h) (fun h=>h)
  replace f1:=f1.trans g2
  clear g2
  have r13:=ba v2 #[β false,β false,U κ 0,U κ 0] 77
  replace r5:=r5.alloc (ω #[β false,β false,U κ 0,U κ 0] 77)
  replace r10:=r10.alloc (ω #[β false,β false,U κ 0,U κ 0] 77)
  replace r11:=r11.alloc (ω #[β false,β false,U κ 0,U κ 0] 77)
  replace r12:=r12.alloc (ω #[β false,β false,U κ 0,U κ 0] 77)
  replace h:=h.alloc (ω #[β false,β false,U κ 0,U κ 0] 77)
  replace f1:=f1.alloc (ω #[β false,β false,U κ 0,U κ 0] 77)
  have r14:=bq v2 (ω #[β false,β false,U κ 0,U κ 0] 77) #[U κ y.ft.k,U κ y.ft.s,U κ y.ft.l,β y.ft.wk,U κ y.ft.p] 50
  replace r5:=r5.alloc (ω #[U κ y.ft.k,U κ y.ft.s,U κ y.ft.l,β y.ft.wk,U κ y.ft.p] 50)
  replace r10:=r10.alloc (ω #[U κ y.ft.k,U κ y.ft.s,U κ y.ft.l,β y.ft.wk,U κ y.ft.p] 50)
  replace r11:=r11.alloc (ω #[U κ y.ft.k,U κ y.ft.s,U κ y.ft.l,β y.ft.wk,U κ y.ft.p] 50)
  replace r12:=r12.alloc (ω #[U κ y.ft.k,U κ y.ft.s,U κ y.ft.l,β y.ft.wk,U κ y.ft.p] 50)
  replace r13:=r13.alloc (ω #[U κ y.ft.k,U κ y.ft.s,U κ y.ft.l,β y.ft.wk,U κ y.ft.p] 50)
  replace h:=h.alloc (ω #[U κ y.ft.k,U κ y.ft.s,U κ y.ft.l,β y.ft.wk,U κ y.ft.p] 50)
  replace f1:=f1.alloc (ω #[U κ y.ft.k,U κ y.ft.s,U κ y.ft.l,β y.ft.wk,U κ y.ft.p] 50)
  obtain ⟨c4x0,c4x1,c4x2,c4x3,c4x4⟩:=bl r14
  obtain ⟨c5x0,c5x1,c5x2,c5x3,c5x4⟩:=bl r10
  obtain ⟨z6x0,z6x1,z6x2,z6x3,z6x4⟩:=bz r10
  go_wp2_with fail
  go_region
  go_wp2_with fail
  refine bodyPost_ret (gk rfl rfl (r10.put5 _ _ _ _ _).drew rfl) rfl ?_
  exact ⟨rfl,(f1.put5 (Or.inl (by omega)) _ _ _ _ _).drew⟩
theorem rnested_no (w:World) (p bf nf:Nat) (bs:List UInt8) (vm sd first second page want:Int) (h:IsRef w p bf nf bs) (hp:isP page=true) (hw:isR want=true) (hf:¬ first<0) (x:Res) (hx:ci bs nf second first page 0=x) (hk:x.ft.k=0) (y:Res) (hy:ci bs nf second x.fr page 1=y) (hj:y.ft.k=0) (hb:bits .and .i64 y.ri want=0) :
  Calls pQ 126 #[π (some ⟨p,0,none⟩),.agg #[U κ vm,U κ sd,U κ first,U κ second],U κ page,U κ want] w fun e w'=>e=ρ (τ #[U κ 0,U κ 0,.agg #[U κ 2,U κ 1,U κ 1,β false,U κ page]])∧Fr bg w w':=by
 have t0:decide (page<0)=false:=decide_eq_false (by have:=jp.1 hp;omega)
 have t1:decide (1023<page)=false:=decide_eq_false (by have:=jp.1 hp;omega)
 have hw3:(want != 1)=false∨((want != 1)=true∧(want != 2)=false)∨((want != 1)=true∧(want != 2)=true∧(want != 4)=false):=by
  rcases sj.1 hw with rfl | rfl | rfl <;> simp
 clear hw
 have t2:decide (first<0)=false:=decide_eq_false (by omega)
 have hs:=fun w0 h0=>m9 w0 p bf nf bs vm sd first second first page 0 h0 hp (Or.inl rfl) (by rw[hx];exact hk)
 rw[hx] at hs
 clear hx hf hk
 have hs2:=fun w0 h0=>m9 w0 p bf nf bs vm sd first second x.fr page 1 h0 hp (Or.inr rfl) (by rw[hy];exact hj)
 rw[hy] at hs2
 clear hy hj
 have t3:(bits .and .i64 y.ri want == 0)=true:=by simp[hb]
 clear hb
 have f1:=Fr.refl bg w
 have r5:=ba w #[U κ vm,U κ sd,U κ first,U κ second] 63
 replace h:=h.alloc (ω #[U κ vm,U κ sd,U κ first,U κ second] 63)
 replace f1:=f1.alloc (ω #[U κ vm,U κ sd,U κ first,U κ second] 63)
 have r10:=bq w (ω #[U κ vm,U κ sd,U κ first,U κ second] 63) #[U κ 0,U κ 0,U κ 0,β false,U κ 0] 50
 replace r5:=r5.alloc (ω #[U κ 0,U κ 0,U κ 0,β false,U κ 0] 50)
 replace h:=h.alloc (ω #[U κ 0,U κ 0,U κ 0,β false,U κ 0] 50)
 replace f1:=f1.alloc (ω #[U κ 0,U κ 0,U κ 0,β false,U κ 0] 50)
 obtain ⟨c0x0,c0x1,c0x2,c0x3⟩:=cl r5
 rcases hw3 with q1 | ⟨q1,q2⟩ | ⟨q1,q2,q3⟩
 all_goals
  go_enter Tryz.func126,Tryz.ntmps126
  go_wp2_with fail
  refine(hs _ h).mono ?_
  rintro e v1 ⟨rfl,g1⟩
  clear c0x0 c0x1 c0x2 c0x3
  replace r5:=r5.keep g1 (fun h=>h)
  replace r10:=r10.keep g1 (fun h=>h)
  replace h:=h.keep g1 (fun h=>h) (fun h=>h)
  replace f1:=f1.trans g1
  clear g1
  have r11:=ba v1 #[β true,β false,U κ x.ri,U κ x.fr] 77
  replace r5:=r5.alloc (ω #[β true,β false,U κ x.ri,U κ x.fr] 77)
  replace r10:=r10.alloc (ω #[β true,β false,U κ x.ri,U κ x.fr] 77)
  replace h:=h.alloc (ω #[β true,β false,U κ x.ri,U κ x.fr] 77)
  replace f1:=f1.alloc (ω #[β true,β false,U κ x.ri,U κ x.fr] 77)
  have r12:=bq v1 (ω #[β true,β false,U κ x.ri,U κ x.fr] 77) #[U κ 0,U κ 0,U κ 0,β false,U κ 0] 50
  replace r5:=r5.alloc (ω #[U κ 0,U κ 0,U κ 0,β false,U κ 0] 50)
  replace r10:=r10.alloc (ω #[U κ 0,U κ 0,U κ 0,β false,U κ 0] 50)
  replace r11:=r11.alloc (ω #[U κ 0,U κ 0,U κ 0,β false,U κ 0] 50)
  replace h:=h.alloc (ω #[U κ 0,U κ 0,U κ 0,β false,U κ 0] 50)
  replace f1:=f1.alloc (ω #[U κ 0,U κ 0,U κ 0,β false,U κ 0] 50)
  obtain ⟨c1x0,c1x1,c1x2,c1x3⟩:=cl r5
  obtain ⟨c2x0,c2x1,c2x2,c2x3⟩:=cl r11
  obtain ⟨c3x0,c3x1,c3x2,c3x3,c3x4⟩:=bl r12
  go_wp2_with fail
  refine(hs2 _ h).mono ?_
  rintro e v2 ⟨rfl,g2⟩
  clear c1x0 c1x1 c1x2 c1x3 c2x0 c2x1 c2x2 c2x3 c3x0 c3x1 c3x2 c3x3 c3x4
  replace r5:=r5.keep g2 (fun h=>h)
  replace r10:=r10.keep g2 (fun h=>h)
  replace r11:=r11.keep g2 (fun h=>h)
  replace r12:=r12.keep g2 (fun h=>h)
  replace h:=h.keep g2 (fun h=>h) (fun h=>h)
  replace f1:=f1.trans g2
  clear g2
  have r13:=ba v2 #[β true,β true,U κ y.ri,U κ y.fr] 77
  replace r5:=r5.alloc (ω #[β true,β true,U κ y.ri,U κ y.fr] 77)
  replace r10:=r10.alloc (ω #[β true,β true,U κ y.ri,U κ y.fr] 77)
  replace r11:=r11.alloc (ω #[β true,β true,U κ y.ri,U κ y.fr] 77)
  replace r12:=r12.alloc (ω #[β true,β true,U κ y.ri,U κ y.fr] 77)
  replace h:=h.alloc (ω #[β true,β true,U κ y.ri,U κ y.fr] 77)
  replace f1:=f1.alloc (ω #[β true,β true,U κ y.ri,U κ y.fr] 77)
  have r14:=bq v2 (ω #[β true,β true,U κ y.ri,U κ y.fr] 77) #[U κ 0,U κ 0,U κ 0,β false,U κ 0] 50
  replace r5:=r5.alloc (ω #[U κ 0,U κ 0,U κ 0,β false,U κ 0] 50)
  replace r10:=r10.alloc (ω #[U κ 0,U κ 0,U κ 0,β false,U κ 0] 50)
  replace r11:=r11.alloc (ω #[U κ 0,U κ 0,U κ 0,β false,U κ 0] 50)
  replace r12:=r12.alloc (ω #[U κ 0,U κ 0,U κ 0,β false,U κ 0] 50)
  replace r13:=r13.alloc (ω #[U κ 0,U κ 0,U κ 0,β false,U κ 0] 50)
  replace h:=h.alloc (ω #[U κ 0,U κ 0,U κ 0,β false,U κ 0] 50)
  replace f1:=f1.alloc (ω #[U κ 0,U κ 0,U κ 0,β false,U κ 0] 50)
  obtain ⟨c4x0,c4x1,c4x2,c4x3⟩:=cl r13
  obtain ⟨c5x0,c5x1,c5x2,c5x3,c5x4⟩:=bl r14
  obtain ⟨c6x0,c6x1,c6x2,c6x3⟩:=cl r5
  obtain ⟨c7x0,c7x1,c7x2,c7x3,c7x4⟩:=bl r10
  obtain ⟨z8x0,z8x1,z8x2,z8x3,z8x4⟩:=bz r10
  go_wp2_with fail
  refine bodyPost_ret (gk rfl rfl (r10.put5 _ _ _ _ _) rfl) rfl ?_
  exact ⟨rfl,f1.put5 (Or.inl (by omega)) _ _ _ _ _⟩
theorem rnested_fin (w:World) (p bf nf:Nat) (bs:List UInt8) (vm sd first second page want:Int) (h:IsRef w p bf nf bs) (hp:isP page=true) (hw:isR want=true) (hf:¬ first<0) (x:Res) (hx:ci bs nf second first page 0=x) (hk:x.ft.k=0) (y:Res) (hy:ci bs nf second x.fr page 1=y) (hj:y.ft.k=0) (hb:bits .and .i64 y.ri want≠0) (z:Res) (hz:ce bs nf second y.fr want=z) :
  Calls pQ 126 #[π (some ⟨p,0,none⟩),.agg #[U κ vm,U κ sd,U κ first,U κ second],U κ page,U κ want] w fun e w'=>e=ρ (τ #[U κ z.fr,U κ (bits .and .i64 z.ri y.ri),.agg #[U κ z.ft.k,U κ z.ft.s,U κ z.ft.l,β z.ft.wk,U κ z.ft.p]])∧Fr bg w w':=by
 have t0:decide (page<0)=false:=decide_eq_false (by have:=jp.1 hp;omega)
 have t1:decide (1023<page)=false:=decide_eq_false (by have:=jp.1 hp;omega)
 have hw3:(want != 1)=false∨((want != 1)=true∧(want != 2)=false)∨((want != 1)=true∧(want != 2)=true∧(want != 4)=false):=by
  rcases sj.1 hw with rfl | rfl | rfl <;> simp
 clear hw
 have t2:decide (first<0)=false:=decide_eq_false (by omega)
 have hs:=fun w0 h0=>m9 w0 p bf nf bs vm sd first second first page 0 h0 hp (Or.inl rfl) (by rw[hx];exact hk)
 rw[hx] at hs
 clear hx hf hk
 have hs2:=fun w0 h0=>m9 w0 p bf nf bs vm sd first second x.fr page 1 h0 hp (Or.inr rfl) (by rw[hy];exact hj)
 rw[hy] at hs2
 clear hy hj
 have t3:(bits .and .i64 y.ri want == 0)=false:=by simp[hb]
 have hs3:=fun w0 h0=>pu w0 p bf nf bs second y.fr want h0
 rw[hz] at hs3
 clear hb hz
 have f1:=Fr.refl bg w
 have r5:=ba w #[U κ vm,U κ sd,U κ first,U κ second] 63
 replace h:=h.alloc (ω #[U κ vm,U κ sd,U κ first,U κ second] 63)
 replace f1:=f1.alloc (ω #[U κ vm,U κ sd,U κ first,U κ second] 63)
 have r10:=bq w (ω #[U κ vm,U κ sd,U κ first,U κ second] 63) #[U κ 0,U κ 0,U κ 0,β false,U κ 0] 50
 replace r5:=r5.alloc (ω #[U κ 0,U κ 0,U κ 0,β false,U κ 0] 50)
 replace h:=h.alloc (ω #[U κ 0,U κ 0,U κ 0,β false,U κ 0] 50)
 replace f1:=f1.alloc (ω #[U κ 0,U κ 0,U κ 0,β false,U κ 0] 50)
 obtain ⟨c0x0,c0x1,c0x2,c0x3⟩:=cl r5
 rcases hw3 with q1 | ⟨q1,q2⟩ | ⟨q1,q2,q3⟩
 all_goals
  go_enter Tryz.func126,Tryz.ntmps126
  go_wp2_with fail
  refine(hs _ h).mono ?_
  rintro e v1 ⟨rfl,g1⟩
  clear c0x0 c0x1 c0x2 c0x3
  replace r5:=r5.keep g1 (fun h=>h)
  replace r10:=r10.keep g1 (fun h=>h)
  replace h:=h.keep g1 (fun h=>h) (fun h=>h)
  replace f1:=f1.trans g1
  clear g1
  have r11:=ba v1 #[β true,β false,U κ x.ri,U κ x.fr] 77
  replace r5:=r5.alloc (ω #[β true,β false,U κ x.ri,U κ x.fr] 77)
  replace r10:=r10.alloc (ω #[β true,β false,U κ x.ri,U κ x.fr] 77)
  replace h:=h.alloc (ω #[β true,β false,U κ x.ri,U κ x.fr] 77)
  replace f1:=f1.alloc (ω #[β true,β false,U κ x.ri,U κ x.fr] 77)
  have r12:=bq v1 (ω #[β true,β false,U κ x.ri,U κ x.fr] 77) #[U κ 0,U κ 0,U κ 0,β false,U κ 0] 50
  replace r5:=r5.alloc (ω #[U κ 0,U κ 0,U κ 0,β false,U κ 0] 50)
  replace r10:=r10.alloc (ω #[U κ 0,U κ 0,U κ 0,β false,U κ 0] 50)
  replace r11:=r11.alloc (ω #[U κ 0,U κ 0,U κ 0,β false,U κ 0] 50)
  replace h:=h.alloc (ω #[U κ 0,U κ 0,U κ 0,β false,U κ 0] 50)
  replace f1:=f1.alloc (ω #[U κ 0,U κ 0,U κ 0,β false,U κ 0] 50)
  obtain ⟨c1x0,c1x1,c1x2,c1x3⟩:=cl r5
  obtain ⟨c2x0,c2x1,c2x2,c2x3⟩:=cl r11
  obtain ⟨c3x0,c3x1,c3x2,c3x3,c3x4⟩:=bl r12
  go_wp2_with fail
  refine(hs2 _ h).mono ?_
  rintro e v2 ⟨rfl,g2⟩
  clear c1x0 c1x1 c1x2 c1x3 c2x0 c2x1 c2x2 c2x3 c3x0 c3x1 c3x2 c3x3 c3x4
  replace r5:=r5.keep g2 (fun h=>h)
  replace r10:=r10.keep g2 (fun h=>h)
  replace r11:=r11.keep g2 (fun h=>h)
  replace r12:=r12.keep g2 (fun h=>h)
  replace h:=h.keep g2 (fun h=>h) (fun h=>h)
  replace f1:=f1.trans g2
  clear g2
  have r13:=ba v2 #[β true,β true,U κ y.ri,U κ y.fr] 77
  replace r5:=r5.alloc (ω #[β true,β true,U κ y.ri,U κ y.fr] 77)
  replace r10:=r10.alloc (ω #[β true,β true,U κ y.ri,U κ y.fr] 77)
  replace r11:=r11.alloc (ω #[β true,β true,U κ y.ri,U κ y.fr] 77)
  replace r12:=r12.alloc (ω #[β true,β true,U κ y.ri,U κ y.fr] 77)
  replace h:=h.alloc (ω #[β true,β true,U κ y.ri,U κ y.fr] 77)
  replace f1:=f1.alloc (ω #[β true,β true,U κ y.ri,U κ y.fr] 77)
  have r14:=bq v2 (ω #[β true,β true,U κ y.ri,U κ y.fr] 77) #[U κ 0,U κ 0,U κ 0,β false,U κ 0] 50
  replace r5:=r5.alloc (ω #[U κ 0,U κ 0,U κ 0,β false,U κ 0] 50)
  replace r10:=r10.alloc (ω #[U κ 0,U κ 0,U κ 0,β false,U κ 0] 50)
  replace r11:=r11.alloc (ω #[U κ 0,U κ 0,U κ 0,β false,U κ 0] 50)
  replace r12:=r12.alloc (ω #[U κ 0,U κ 0,U κ 0,β false,U κ 0] 50)
  replace r13:=r13.alloc (ω #[U κ 0,U κ 0,U κ 0,β false,U κ 0] 50)
  replace h:=h.alloc (ω #[U κ 0,U κ 0,U κ 0,β false,U κ 0] 50)
  replace f1:=f1.alloc (ω #[U κ 0,U κ 0,U κ 0,β false,U κ 0] 50)
  obtain ⟨c4x0,c4x1,c4x2,c4x3⟩:=cl r13
  obtain ⟨c5x0,c5x1,c5x2,c5x3,c5x4⟩:=bl r14
  obtain ⟨c6x0,c6x1,c6x2,c6x3⟩:=cl r5
  go_wp2_with fail
  refine(hs3 _ h).mono ?_
  rintro e v3 ⟨rfl,g3⟩
  clear c4x0 c4x1 c4x2 c4x3 c5x0 c5x1 c5x2 c5x3 c5x4 c6x0 c6x1 c6x2 c6x3
  replace r5:=r5.keep g3 (fun h=>h)
  replace r10:=r10.keep g3 (fun h=>h)
  replace r11:=r11.keep g3 (fun h=>h)
  replace r12:=r12.keep g3 (fun h=>h)
  replace r13:=r13.keep g3 (fun h=>h)
  replace r14:=r14.keep g3 (fun h=>h)
  replace h:=h.keep g3 (fun h=>h) (fun h=>h)
  replace f1:=f1.trans g3
  clear g3
  have r17:=ba v3 #[U κ z.ft.k,U κ z.ft.s,U κ z.ft.l,β z.ft.wk,U κ z.ft.p] 50
  replace r5:=r5.alloc (ω #[U κ z.ft.k,U κ z.ft.s,U κ z.ft.l,β z.ft.wk,U κ z.ft.p] 50)
  replace r10:=r10.alloc (ω #[U κ z.ft.k,U κ z.ft.s,U κ z.ft.l,β z.ft.wk,U κ z.ft.p] 50)
  replace r11:=r11.alloc (ω #[U κ z.ft.k,U κ z.ft.s,U κ z.ft.l,β z.ft.wk,U κ z.ft.p] 50)
  replace r12:=r12.alloc (ω #[U κ z.ft.k,U κ z.ft.s,U κ z.ft.l,β z.ft.wk,U κ z.ft.p] 50)
  replace r13:=r13.alloc (ω #[U κ z.ft.k,U κ z.ft.s,U κ z.ft.l,β z.ft.wk,U κ z.ft.p] 50)
  replace r14:=r14.alloc (ω #[U κ z.ft.k,U κ z.ft.s,U κ z.ft.l,β z.ft.wk,U κ z.ft.p] 50)
  replace h:=h.alloc (ω #[U κ z.ft.k,U κ z.ft.s,U κ z.ft.l,β z.ft.wk,U κ z.ft.p] 50)
  replace f1:=f1.alloc (ω #[U κ z.ft.k,U κ z.ft.s,U κ z.ft.l,β z.ft.wk,U κ z.ft.p] 50)
  obtain ⟨c7x0,c7x1,c7x2,c7x3,c7x4⟩:=bl r17
  obtain ⟨c8x0,c8x1,c8x2,c8x3⟩:=cl r13
  obtain ⟨c9x0,c9x1,c9x2,c9x3,c9x4⟩:=bl r10
  obtain ⟨z10x0,z10x1,z10x2,z10x3,z10x4⟩:=bz r10
  go_wp2_with fail
  go_region
  go_wp2_with fail
  refine bodyPost_ret (gk rfl rfl (r10.put5 _ _ _ _ _).drew rfl) rfl ?_
  exact ⟨rfl,(f1.put5 (Or.inl (by omega)) _ _ _ _ _).drew⟩
theorem lr (w:World) (p bf nf:Nat) (bs:List UInt8) (vm sd first second page want:Int) (h:IsRef w p bf nf bs) :
  Calls pQ 126 #[π (some ⟨p,0,none⟩),.agg #[U κ vm,U κ sd,U κ first,U κ second],U κ page,U κ want] w fun e w'=>e=ρ (τ #[U κ (cg bs nf first second page want).fr,U κ (cg bs nf first second page want).ri,.agg #[U κ (cg bs nf first second page want).ft.k,U κ (cg bs nf first second page want).ft.s,U κ (cg bs nf first second page want).ft.l,β (cg bs nf first second page want).ft.wk,U κ (cg bs nf first second page want).ft.p]])∧Fr bg w w':=by
 cases hp:isP page with
 | false =>
  have e:cg bs nf first second page want=rv 3 0 0 false 0:=by unfold cg;rw[if_pos (Or.inl hp)]
  rw[e]
  have hn:¬ (0≤page∧page≤1023):=fun hh=>by rw[jp.2 hh] at hp;exact absurd hp (by decide)
  by_cases h0:page<0
  ·exact rnested_lo w p vm sd first second page want h0
  ·exact rnested_hi w p vm sd first second page want h0 (by omega)
 | true =>
  have hq:=jp.1 hp
  cases hw:isR want with
  | false =>
   have e:cg bs nf first second page want=rv 3 0 0 false 0:=by unfold cg;rw[if_pos (Or.inr hw)]
   rw[e]
   exact rnested_w w p vm sd first second page want (by omega) (by omega) hw
  | true =>
   have e0:¬ (isP page=false∨isR want=false):=by simp[hp,hw]
   unfold cg
   rw[if_neg e0]
   by_cases hf:first<0
   ·rw[if_pos hf]
    exact rnested_plain w p bf nf bs vm sd first second page want h hp hw hf _ rfl
   ·rw[if_neg hf]
    by_cases h1:(ci bs nf second first page 0).ft.k=0
    ·rw[if_neg (by simpa using h1)]
     by_cases h2:(ci bs nf second (ci bs nf second first page 0).fr page 1).ft.k=0
     ·rw[if_neg (by simpa using h2)]
      by_cases h3:bits .and .i64 (ci bs nf second (ci bs nf second first page 0).fr page 1).ri want=0
      ·rw[if_pos h3]
       exact rnested_no w p bf nf bs vm sd first second page want h hp hw hf _ rfl h1 _ rfl h2 h3
      ·rw[if_neg h3]
       exact rnested_fin w p bf nf bs vm sd first second page want h hp hw hf _ rfl h1 _ rfl h2 h3 _ rfl
     ·rw[if_pos h2,(jf _ _ _ _ _ _ h2).1,(jf _ _ _ _ _ _ h2).2]
      exact rnested_g1 w p bf nf bs vm sd first second page want h hp hw hf _ rfl h1 _ rfl h2
    ·rw[if_pos h1,(jf _ _ _ _ _ _ h1).1,(jf _ _ _ _ _ _ h1).2]
     exact rnested_g0 w p bf nf bs vm sd first second page want h hp hw hf _ rfl h1
end Go.Proofs.YtibhbjbpodlpiaaGreat
