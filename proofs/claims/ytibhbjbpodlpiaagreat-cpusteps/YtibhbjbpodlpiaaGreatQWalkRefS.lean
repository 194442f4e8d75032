/-
  Contracts over the translation. No statement is proved here.
-/
import Derived.Test.YtibhbjbpodlpiaaGreatQJK
set_option maxRecDepth 100000
set_option maxHeartbeats 8000000
namespace Go.Proofs.YtibhbjbpodlpiaaGreat
open Go.RowKit
open Go.Value renaming int → U, bool → β, pointer → π, tuple → τ
open Go.IntKind renaming i64 → κ, u32 → μ
open Go.Obj renaming cells → ω
open Go.Ending renaming returned → ρ
open Go.Proofs.Tryz renaming prog → pQ
theorem IsRef.alloc {w:World} {p bf nf:Nat} {bs:List UInt8} (h:IsRef w p bf nf bs) (o:Obj):IsRef (w.alloc o) p bf nf bs:=h.keep ((Fr.refl bg w).alloc o) (fun h=>h) (fun h=>h)
theorem rsingle_lo (w:World) (p:Nat) (root page:Int) (hp:page<0) :
  Calls pQ 162 #[π (some ⟨p,0,none⟩),U κ root,U κ page] w fun e w'=>e=ρ (τ #[U κ 0,U κ 0,.agg #[U κ 3,U κ 0,U κ 0,β false,U κ 0]])∧Fr bg w w':=by
 have t0:decide (page<0)=true:=decide_eq_true hp
 go_enter Tryz.func162,Tryz.ntmps162
 go_wp2_with fail
 refine bodyPost_ret (gk rfl rfl (ba _ _ _) rfl) rfl ?_
 exact ⟨rfl,(Fr.refl _ _).alloc _⟩
theorem rsingle_hi (w:World) (p:Nat) (root page:Int) (h0:¬ page<0) (hp:1023<page) :
  Calls pQ 162 #[π (some ⟨p,0,none⟩),U κ root,U κ page] w fun e w'=>e=ρ (τ #[U κ 0,U κ 0,.agg #[U κ 3,U κ 0,U κ 0,β false,U κ 0]])∧Fr bg w w':=by
 have t0:decide (page<0)=false:=decide_eq_false h0
 have t1:decide (1023<page)=true:=decide_eq_true hp
 go_enter Tryz.func162,Tryz.ntmps162
 go_wp2_with fail
 refine bodyPost_ret (gk rfl rfl (ba _ _ _) rfl) rfl ?_
 exact ⟨rfl,(Fr.refl _ _).alloc _⟩
theorem rsingle_bad0 (w:World) (p bf nf:Nat) (bs:List UInt8) (root page:Int) (h:IsRef w p bf nf bs) (hp:isP page=true) (hk:jq bs nf root page 0≠0) :
  Calls pQ 162 #[π (some ⟨p,0,none⟩),U κ root,U κ page] w fun e w'=>e=ρ (τ #[U κ 0,U κ 0,.agg #[U κ (jq bs nf root page 0),U κ 2,U κ 0,β false,U κ page]])∧Fr bg w w':=by
 have f1:=Fr.refl bg w
 have t0:decide (page<0)=false:=decide_eq_false (by have:=jp.1 hp;omega)
 have t1:decide (1023<page)=false:=decide_eq_false (by have:=jp.1 hp;omega)
 have t2:(jq bs nf root page 0 != 0)=true:=by simp[hk]
 have r8:=ba w #[U κ 0,U κ 0,U κ 0,β false,U κ 0] 50
 replace h:=h.alloc (ω #[U κ 0,U κ 0,U κ 0,β false,U κ 0] 50)
 replace f1:=f1.alloc (ω #[U κ 0,U κ 0,U κ 0,β false,U κ 0] 50)
 go_enter Tryz.func162,Tryz.ntmps162
 go_wp2_with fail
 refine(ve _ _ _ _ _ _ _ _ h hp (Or.inl rfl) hk).mono ?_
 rintro e v1 ⟨rfl,g1⟩
 replace r8:=r8.keep g1 (fun h=>h)
 replace h:=h.keep g1 (fun h=>h) (fun h=>h)
 replace f1:=f1.trans g1
 clear g1
 have r9:=ba v1 #[β false,β false,U κ 0,U κ 0] 77
 replace r8:=r8.alloc (ω #[β false,β false,U κ 0,U κ 0] 77)
 replace h:=h.alloc (ω #[β false,β false,U κ 0,U κ 0] 77)
 replace f1:=f1.alloc (ω #[β false,β false,U κ 0,U κ 0] 77)
 obtain ⟨c0x0,c0x1,c0x2,c0x3,c0x4⟩:=bl r8
 obtain ⟨z1x0,z1x1,z1x2,z1x3,z1x4⟩:=bz r8
 go_wp2_with fail
 refine bodyPost_ret (gk rfl rfl (r8.put5 _ _ _ _ _) rfl) rfl ?_
 exact ⟨rfl,f1.put5 (Or.inl (Nat.le_refl _)) _ _ _ _ _⟩
theorem rsingle_bad1 (w:World) (p bf nf:Nat) (bs:List UInt8) (root page:Int) (h:IsRef w p bf nf bs) (hp:isP page=true) (hk:jq bs nf root page 0=0) (hj:jq bs nf (df (ew bs root page 0)) page 1≠0) :
  Calls pQ 162 #[π (some ⟨p,0,none⟩),U κ root,U κ page] w fun e w'=>e=ρ (τ #[U κ 0,U κ 0,.agg #[U κ (jq bs nf (df (ew bs root page 0)) page 1),U κ 2,U κ 1,β false,U κ page]])∧Fr bg w w':=by
 have f1:=Fr.refl bg w
 have t0:decide (page<0)=false:=decide_eq_false (by have:=jp.1 hp;omega)
 have t1:decide (1023<page)=false:=decide_eq_false (by have:=jp.1 hp;omega)
 have t2:((jq bs nf (df (ew bs root page 0)) page 1) != 0)=true:=by simp[hj]
 have r8:=ba w #[U κ 0,U κ 0,U κ 0,β false,U κ 0] 50
 replace h:=h.alloc (ω #[U κ 0,U κ 0,U κ 0,β false,U κ 0] 50)
 replace f1:=f1.alloc (ω #[U κ 0,U κ 0,U κ 0,β false,U κ 0] 50)
 go_enter Tryz.func162,Tryz.ntmps162
 go_wp2_with fail
 refine(ss _ _ _ _ _ _ _ _ h hp (Or.inl rfl) hk).mono ?_
 rintro e v1 ⟨rfl,g1⟩
 replace r8:=r8.keep g1 (fun h=>h)
 replace h:=h.keep g1 (fun h=>h) (fun h=>h)
 replace f1:=f1.trans g1
 clear g1
 have r9:=ba v1 #[β true,β false,U κ (dr (ew bs root page 0)),U κ (df (ew bs root page 0))] 77
 replace r8:=r8.alloc (ω #[β true,β false,U κ (dr (ew bs root page 0)),U κ (df (ew bs root page 0))] 77)
 replace h:=h.alloc (ω #[β true,β false,U κ (dr (ew bs root page 0)),U κ (df (ew bs root page 0))] 77)
 replace f1:=f1.alloc (ω #[β true,β false,U κ (dr (ew bs root page 0)),U κ (df (ew bs root page 0))] 77)
 obtain ⟨c0x0,c0x1,c0x2,c0x3⟩:=cl r9
 go_wp2_with fail
 refine(ve _ _ _ _ _ _ _ _ h hp (Or.inr rfl) hj).mono ?_
 rintro e v2 ⟨rfl,g2⟩
 clear c0x0 c0x1 c0x2 c0x3
 replace r8:=r8.keep g2 (fun h=>h)
 replace r9:=r9.keep g2 (fun h=>h)
 replace h:=h.keep g2 (fun h=>h) (fun h=>h)
 replace f1:=f1.trans g2
 clear g2
 have r11:=ba v2 #[β false,β false,U κ 0,U κ 0] 77
 replace r8:=r8.alloc (ω #[β false,β false,U κ 0,U κ 0] 77)
 replace r9:=r9.alloc (ω #[β false,β false,U κ 0,U κ 0] 77)
 replace h:=h.alloc (ω #[β false,β false,U κ 0,U κ 0] 77)
 replace f1:=f1.alloc (ω #[β false,β false,U κ 0,U κ 0] 77)
 obtain ⟨c1x0,c1x1,c1x2,c1x3,c1x4⟩:=bl r8
 obtain ⟨z2x0,z2x1,z2x2,z2x3,z2x4⟩:=bz r8
 go_wp2_with fail
 refine bodyPost_ret (gk rfl rfl (r8.put5 _ _ _ _ _) rfl) rfl ?_
 exact ⟨rfl,f1.put5 (Or.inl (Nat.le_refl _)) _ _ _ _ _⟩
theorem rsingle_ok (w:World) (p bf nf:Nat) (bs:List UInt8) (root page:Int) (h:IsRef w p bf nf bs) (hp:isP page=true) (hk:jq bs nf root page 0=0) (hj:jq bs nf (df (ew bs root page 0)) page 1=0) :
  Calls pQ 162 #[π (some ⟨p,0,none⟩),U κ root,U κ page] w fun e w'=>e=ρ (τ #[U κ (df (ew bs (df (ew bs root page 0)) page 1)),U κ (dr (ew bs (df (ew bs root page 0)) page 1)),.agg #[U κ 0,U κ 0,U κ 0,β false,U κ 0]])∧Fr bg w w':=by
 have f1:=Fr.refl bg w
 have t0:decide (page<0)=false:=decide_eq_false (by have:=jp.1 hp;omega)
 have t1:decide (1023<page)=false:=decide_eq_false (by have:=jp.1 hp;omega)
 have r8:=ba w #[U κ 0,U κ 0,U κ 0,β false,U κ 0] 50
 replace h:=h.alloc (ω #[U κ 0,U κ 0,U κ 0,β false,U κ 0] 50)
 replace f1:=f1.alloc (ω #[U κ 0,U κ 0,U κ 0,β false,U κ 0] 50)
 go_enter Tryz.func162,Tryz.ntmps162
 go_wp2_with fail
 refine(ss _ _ _ _ _ _ _ _ h hp (Or.inl rfl) hk).mono ?_
 rintro e v1 ⟨rfl,g1⟩
 replace r8:=r8.keep g1 (fun h=>h)
 replace h:=h.keep g1 (fun h=>h) (fun h=>h)
 replace f1:=f1.trans g1
 clear g1
 have r9:=ba v1 #[β true,β false,U κ (dr (ew bs root page 0)),U κ (df (ew bs root page 0))] 77
 replace r8:=r8.alloc (ω #[β true,β false,U κ (dr (ew bs root page 0)),U κ (df (ew bs root page 0))] 77)
 replace h:=h.alloc (ω #[β true,β false,U κ (dr (ew bs root page 0)),U κ (df (ew bs root page 0))] 77)
 replace f1:=f1.alloc (ω #[β true,β false,U κ (dr (ew bs root page 0)),U κ (df (ew bs root page 0))] 77)
 obtain ⟨c0x0,c0x1,c0x2,c0x3⟩:=cl r9
 go_wp2_with fail
 refine(ss _ _ _ _ _ _ _ _ h hp (Or.inr rfl) hj).mono ?_
 rintro e v2 ⟨rfl,g2⟩
 clear c0x0 c0x1 c0x2 c0x3
 replace r8:=r8.keep g2 (fun h=>h)
 replace r9:=r9.keep g2 (fun h=>h)
 replace h:=h.keep g2 (fun h=>h) (fun h=>h)
 replace f1:=f1.trans g2
 clear g2
 have r11:=ba v2 #[β true,β true,U κ (dr (ew bs (df (ew bs root page 0)) page 1)),U κ (df (ew bs (df (ew bs root page 0)) page 1))] 77
 replace r8:=r8.alloc (ω #[β true,β true,U κ (dr (ew bs (df (ew bs root page 0)) page 1)),U κ (df (ew bs (df (ew bs root page 0)) page 1))] 77)
 replace r9:=r9.alloc (ω #[β true,β true,U κ (dr (ew bs (df (ew bs root page 0)) page 1)),U κ (df (ew bs (df (ew bs root page 0)) page 1))] 77)
 replace h:=h.alloc (ω #[β true,β true,U κ (dr (ew bs (df (ew bs root page 0)) page 1)),U κ (df (ew bs (df (ew bs root page 0)) page 1))] 77)
 replace f1:=f1.alloc (ω #[β true,β true,U κ (dr (ew bs (df (ew bs root page 0)) page 1)),U κ (df (ew bs (df (ew bs root page 0)) page 1))] 77)
 obtain ⟨c1x0,c1x1,c1x2,c1x3⟩:=cl r11
 obtain ⟨c2x0,c2x1,c2x2,c2x3,c2x4⟩:=bl r8
 obtain ⟨z3x0,z3x1,z3x2,z3x3,z3x4⟩:=bz r8
 go_wp2_with fail
 go_region
 go_wp2_with fail
 refine bodyPost_ret (gk rfl rfl (r8.put5 _ _ _ _ _).drew rfl) rfl ?_
 exact ⟨rfl,(f1.put5 (Or.inl (Nat.le_refl _)) _ _ _ _ _).drew⟩
theorem sf (w:World) (p bf nf:Nat) (bs:List UInt8) (root page:Int) (h:IsRef w p bf nf bs) :
  Calls pQ 162 #[π (some ⟨p,0,none⟩),U κ root,U κ page] w fun e w'=>e=ρ (τ #[U κ (cv bs nf root page).fr,U κ (cv bs nf root page).ri,.agg #[U κ (cv bs nf root page).ft.k,U κ (cv bs nf root page).ft.s,U κ (cv bs nf root page).ft.l,β (cv bs nf root page).ft.wk,U κ (cv bs nf root page).ft.p]])∧Fr bg w w':=by
 rcases pq bs nf root page with ⟨hp,e⟩ | ⟨hp,h1,e⟩ | ⟨hp,h1,h2,e⟩ | ⟨hp,h1,h2,e⟩
 ·rw[e]
  have hn:¬ (0≤page∧page≤1023):=fun hh=>by rw[jp.2 hh] at hp;exact absurd hp (by decide)
  by_cases h0:page<0
  ·exact rsingle_lo w p root page h0
  ·exact rsingle_hi w p root page h0 (by omega)
 ·rw[e];exact rsingle_bad0 w p bf nf bs root page h hp h1
 ·rw[e];exact rsingle_bad1 w p bf nf bs root page h hp h1 h2
 ·rw[e];exact rsingle_ok w p bf nf bs root page h hp h1 h2
theorem rwith_bad (w:World) (p bf nf:Nat) (bs:List UInt8) (root page want:Int) (h:IsRef w p bf nf bs) (x:Res) (hx:cv bs nf root page=x) (hk:x.ft.k≠0) :
  Calls pQ 141 #[π (some ⟨p,0,none⟩),U κ root,U κ page,U κ want] w fun e w'=>e=ρ (τ #[U κ 0,U κ 0,.agg #[U κ x.ft.k,U κ x.ft.s,U κ x.ft.l,β x.ft.wk,U κ x.ft.p]])∧Fr bg w w':=by
 have f1:=Fr.refl bg w
 have t2:(x.ft.k != 0)=true:=by simp[hk]
 clear hk
 have hs:=fun w0 h0=>sf w0 p bf nf bs root page h0
 rw[hx] at hs
 clear hx
 have r10:=ba w #[U κ 0,U κ 0,U κ 0,β false,U κ 0] 50
 replace h:=h.alloc (ω #[U κ 0,U κ 0,U κ 0,β false,U κ 0] 50)
 replace f1:=f1.alloc (ω #[U κ 0,U κ 0,U κ 0,β false,U κ 0] 50)
 go_enter Tryz.func141,Tryz.ntmps141
 go_wp2_with fail
 refine(hs _ h).mono ?_
 rintro e v1 ⟨rfl,g1⟩
 replace r10:=r10.keep g1 (fun h=>h)
 replace h:=h.keep g1 (fun h=>h) (fun h=>h)
 replace f1:=f1.trans g1
 clear g1
 have r13:=ba v1 #[U κ x.ft.k,U κ x.ft.s,U κ x.ft.l,β x.ft.wk,U κ x.ft.p] 50
 replace r10:=r10.alloc (ω #[U κ x.ft.k,U κ x.ft.s,U κ x.ft.l,β x.ft.wk,U κ x.ft.p] 50)
 replace h:=h.alloc (ω #[U κ x.ft.k,U κ x.ft.s,U κ x.ft.l,β x.ft.wk,U κ x.ft.p] 50)
 replace f1:=f1.alloc (ω #[U κ x.ft.k,U κ x.ft.s,U κ x.ft.l,β x.ft.wk,U κ x.ft.p] 50)
 obtain ⟨c0x0,c0x1,c0x2,c0x3,c0x4⟩:=bl r13
 obtain ⟨c1x0,c1x1,c1x2,c1x3,c1x4⟩:=bl r10
 obtain ⟨z2x0,z2x1,z2x2,z2x3,z2x4⟩:=bz r10
 go_wp2_with fail
 go_region
 go_wp2_with fail
 refine bodyPost_ret (gk rfl rfl (r10.put5 _ _ _ _ _).drew rfl) rfl ?_
 exact ⟨rfl,(f1.put5 (Or.inl (Nat.le_refl _)) _ _ _ _ _).drew⟩
theorem rwith_no (w:World) (p bf nf:Nat) (bs:List UInt8) (root page want:Int) (h:IsRef w p bf nf bs) (x:Res) (hx:cv bs nf root page=x) (hk:x.ft.k=0) (hb:bits .and .i64 x.ri want=0) :
  Calls pQ 141 #[π (some ⟨p,0,none⟩),U κ root,U κ page,U κ want] w fun e w'=>e=ρ (τ #[U κ 0,U κ 0,.agg #[U κ 2,U κ 2,U κ 1,β false,U κ page]])∧Fr bg w w':=by
 have f1:=Fr.refl bg w
 have t2:(x.ft.k != 0)=false:=by simp[hk]
 have t3:(bits .and .i64 x.ri want == 0)=true:=by simp[hb]
 clear hk hb
 have hs:=fun w0 h0=>sf w0 p bf nf bs root page h0
 rw[hx] at hs
 clear hx
 have r10:=ba w #[U κ 0,U κ 0,U κ 0,β false,U κ 0] 50
 replace h:=h.alloc (ω #[U κ 0,U κ 0,U κ 0,β false,U κ 0] 50)
 replace f1:=f1.alloc (ω #[U κ 0,U κ 0,U κ 0,β false,U κ 0] 50)
 go_enter Tryz.func141,Tryz.ntmps141
 go_wp2_with fail
 refine(hs _ h).mono ?_
 rintro e v1 ⟨rfl,g1⟩
 replace r10:=r10.keep g1 (fun h=>h)
 replace h:=h.keep g1 (fun h=>h) (fun h=>h)
 replace f1:=f1.trans g1
 clear g1
 have r13:=ba v1 #[U κ x.ft.k,U κ x.ft.s,U κ x.ft.l,β x.ft.wk,U κ x.ft.p] 50
 replace r10:=r10.alloc (ω #[U κ x.ft.k,U κ x.ft.s,U κ x.ft.l,β x.ft.wk,U κ x.ft.p] 50)
 replace h:=h.alloc (ω #[U κ x.ft.k,U κ x.ft.s,U κ x.ft.l,β x.ft.wk,U κ x.ft.p] 50)
 replace f1:=f1.alloc (ω #[U κ x.ft.k,U κ x.ft.s,U κ x.ft.l,β x.ft.wk,U κ x.ft.p] 50)
 obtain ⟨c0x0,c0x1,c0x2,c0x3,c0x4⟩:=bl r13
 obtain ⟨c1x0,c1x1,c1x2,c1x3,c1x4⟩:=bl r10
 obtain ⟨z2x0,z2x1,z2x2,z2x3,z2x4⟩:=bz r10
 go_wp2_with fail
 refine bodyPost_ret (gk rfl rfl (r10.put5 _ _ _ _ _) rfl) rfl ?_
 exact ⟨rfl,f1.put5 (Or.inl (Nat.le_refl _)) _ _ _ _ _⟩
theorem rwith_yes (w:World) (p bf nf:Nat) (bs:List UInt8) (root page want:Int) (h:IsRef w p bf nf bs) (x:Res) (hx:cv bs nf root page=x) (hk:x.ft.k=0) (hb:bits .and .i64 x.ri want≠0) :
  Calls pQ 141 #[π (some ⟨p,0,none⟩),U κ root,U κ page,U κ want] w fun e w'=>e=ρ (τ #[U κ x.fr,U κ x.ri,.agg #[U κ x.ft.k,U κ x.ft.s,U κ x.ft.l,β x.ft.wk,U κ x.ft.p]])∧Fr bg w w':=by
 have f1:=Fr.refl bg w
 have t2:(x.ft.k != 0)=false:=by simp[hk]
 have t3:(bits .and .i64 x.ri want == 0)=false:=by simp[hb]
 clear hk hb
 have hs:=fun w0 h0=>sf w0 p bf nf bs root page h0
 rw[hx] at hs
 clear hx
 have r10:=ba w #[U κ 0,U κ 0,U κ 0,β false,U κ 0] 50
 replace h:=h.alloc (ω #[U κ 0,U κ 0,U κ 0,β false,U κ 0] 50)
 replace f1:=f1.alloc (ω #[U κ 0,U κ 0,U κ 0,β false,U κ 0] 50)
 go_enter Tryz.func141,Tryz.ntmps141
 go_wp2_with fail
 refine(hs _ h).mono ?_
 rintro e v1 ⟨rfl,g1⟩
 replace r10:=r10.keep g1 (fun h=>h)
 replace h:=h.keep g1 (fun h=>h) (fun h=>h)
 replace f1:=f1.trans g1
 clear g1
 have r13:=ba v1 #[U κ x.ft.k,U κ x.ft.s,U κ x.ft.l,β x.ft.wk,U κ x.ft.p] 50
 replace r10:=r10.alloc (ω #[U κ x.ft.k,U κ x.ft.s,U κ x.ft.l,β x.ft.wk,U κ x.ft.p] 50)
 replace h:=h.alloc (ω #[U κ x.ft.k,U κ x.ft.s,U κ x.ft.l,β x.ft.wk,U κ x.ft.p] 50)
 replace f1:=f1.alloc (ω #[U κ x.ft.k,U κ x.ft.s,U κ x.ft.l,β x.ft.wk,U κ x.ft.p] 50)
 obtain ⟨c0x0,c0x1,c0x2,c0x3,c0x4⟩:=bl r13
 obtain ⟨c1x0,c1x1,c1x2,c1x3,c1x4⟩:=bl r10
 obtain ⟨z2x0,z2x1,z2x2,z2x3,z2x4⟩:=bz r10
 go_wp2_with fail
 go_region
 go_wp2_with fail
 refine bodyPost_ret (gk rfl rfl (r10.put5 _ _ _ _ _).drew rfl) rfl ?_
 exact ⟨rfl,(f1.put5 (Or.inl (Nat.le_refl _)) _ _ _ _ _).drew⟩
theorem pu (w:World) (p bf nf:Nat) (bs:List UInt8) (root page want:Int) (h:IsRef w p bf nf bs) :
  Calls pQ 141 #[π (some ⟨p,0,none⟩),U κ root,U κ page,U κ want] w fun e w'=>e=ρ (τ #[U κ (ce bs nf root page want).fr,U κ (ce bs nf root page want).ri,.agg #[U κ (ce bs nf root page want).ft.k,U κ (ce bs nf root page want).ft.s,U κ (ce bs nf root page want).ft.l,β (ce bs nf root page want).ft.wk,U κ (ce bs nf root page want).ft.p]])∧Fr bg w w':=by
 rcases nz bs nf root page want with ⟨h1,e⟩ | ⟨h1,h2,e⟩ | ⟨h1,h2,e⟩
 ·rw[e]
  have z:=wz bs nf root page h1
  rw[z.1,z.2]
  exact rwith_bad w p bf nf bs root page want h _ rfl h1
 ·rw[e];exact rwith_no w p bf nf bs root page want h _ rfl h1 h2
 ·rw[e];exact rwith_yes w p bf nf bs root page want h _ rfl h1 h2
end Go.Proofs.YtibhbjbpodlpiaaGreat
