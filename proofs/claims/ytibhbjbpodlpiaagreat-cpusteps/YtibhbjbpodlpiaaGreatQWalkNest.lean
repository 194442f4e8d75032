/-
  Contracts over the translation. No statement is proved here.
-/
import Derived.Test.YtibhbjbpodlpiaaGreatQJK
set_option maxRecDepth 100000
set_option maxHeartbeats 8000000
namespace Go.Proofs.YtibhbjbpodlpiaaGreat
open Go.RowKit
open Go.Value renaming int → U, bool → β, pointer → π, tuple → τ
open Go.IntKind renaming i64 → κ, u32 → μ
open Go.Obj renaming cells → ω
open Go.Ending renaming returned → ρ
open Go.Proofs.Tryz renaming prog → pQ
theorem qm (w:World) (o o' o'':Obj) (cs:Array Value) (t:TypeId):Row ((((w.alloc o).alloc o').alloc o'').alloc (.cells cs t)) (w.heap.size+1+1+1) cs t:=by
 have:=dt (w.alloc o) o' o'' cs t
 rwa [tu] at this
theorem clo_bad (w:World) (p bf nf g1 g2:Nat) (bs:List UInt8) (vm sd first second t:Int) (h:IsRam w p bf nf bs) (r1:Row w g1 #[π (some ⟨p,0,none⟩)] 33) (r2:Row w g2 #[U κ vm,U κ sd,U κ first,U κ second] 63) (x:Res) (hx:ce bs nf second t 1=x) (hk:x.ft.k≠0) :
  Calls pQ 173 #[U κ t,π (some ⟨g1,0,none⟩),π (some ⟨g2,0,none⟩)] w fun e w'=>e=ρ (τ #[U κ x.fr,.agg #[U κ x.ft.k,U κ x.ft.s,U κ x.ft.l,β true,U κ x.ft.p]])∧Fr bg w w':=by
 have f1:=Fr.refl bg w
 have t2:(x.ft.k == 0)=false:=by simp[hk]
 have hs:=fun w0 h0=>n5 w0 p bf nf bs second t 1 h0
 rw[hx] at hs
 clear hx hk
 have r5:=ba w #[U κ 0,U κ 0,U κ 0,β false,U κ 0] 50
 replace r1:=r1.alloc (ω #[U κ 0,U κ 0,U κ 0,β false,U κ 0] 50)
 replace r2:=r2.alloc (ω #[U κ 0,U κ 0,U κ 0,β false,U κ 0] 50)
 replace h:=h.alloc (ω #[U κ 0,U κ 0,U κ 0,β false,U κ 0] 50)
 replace f1:=f1.alloc (ω #[U κ 0,U κ 0,U κ 0,β false,U κ 0] 50)
 have d0:=r1.cell 0
 obtain ⟨c1x0,c1x1,c1x2,c1x3⟩:=cl r2
 go_enter Tryz.func173,Tryz.ntmps173
 go_wp2_with fail
 refine(hs _ h).mono ?_
 rintro e v1 ⟨rfl,g1⟩
 clear d0 c1x0 c1x1 c1x2 c1x3
 replace r1:=r1.keep g1 (fun h=>h)
 replace r2:=r2.keep g1 (fun h=>h)
 replace r5:=r5.keep g1 (fun h=>h)
 replace h:=h.keep g1 (fun h=>h) (fun h=>h)
 replace f1:=f1.trans g1
 clear g1
 clear h r1 r2
 have l1:Hid (w.heap.size<v1.heap.size):=r5.lt
 have r8:=ba v1 #[U κ x.ft.k,U κ x.ft.s,U κ x.ft.l,β x.ft.wk,U κ x.ft.p] 50
 replace r5:=r5.alloc (ω #[U κ x.ft.k,U κ x.ft.s,U κ x.ft.l,β x.ft.wk,U κ x.ft.p] 50)
 replace f1:=f1.alloc (ω #[U κ x.ft.k,U κ x.ft.s,U κ x.ft.l,β x.ft.wk,U κ x.ft.p] 50)
 obtain ⟨c2x0,c2x1,c2x2,c2x3,c2x4⟩:=bl r8
 go_wp2_with fail
 refine(dh x.ft _).mono ?_
 rintro e v2 ⟨rfl,g2⟩
 clear c2x0 c2x1 c2x2 c2x3 c2x4
 rw[t2]
 replace r5:=r5.keep g2 (fun h=>h)
 replace r8:=r8.keep g2 (fun h=>h)
 replace f1:=f1.trans g2
 clear g2
 obtain ⟨c3x0,c3x1,c3x2,c3x3,c3x4⟩:=bl r8
 obtain ⟨z4x0,z4x1,z4x2,z4x3,z4x4⟩:=bz r8
 go_wp2_with fail
 clear c3x0 c3x1 c3x2 c3x3 c3x4 z4x0 z4x1 z4x2 z4x3 z4x4
 have l2:=l1.out
 replace r5:=r5.setCell_other (p:=⟨v1.heap.size,3,none⟩) (show v1.heap.size≠_ by omega) (β true)
 replace r8:Row _ _ #[U κ x.ft.k,U κ x.ft.s,U κ x.ft.l,β true,U κ x.ft.p] _:=r8.setCell 3 (β true)
 replace f1:=f1.setCell (p:=⟨v1.heap.size,3,none⟩) (Or.inl (by show w.heap.size≤v1.heap.size;omega)) (β true)
 generalize hWW1:(v2.setCell ⟨v1.heap.size,3,none⟩ (β true))=W1 at r5 r8 f1 ⊢
 clear hWW1
 clear l1 l2
 obtain ⟨c5x0,c5x1,c5x2,c5x3,c5x4⟩:=bl r8
 obtain ⟨c6x0,c6x1,c6x2,c6x3,c6x4⟩:=bl r5
 obtain ⟨z7x0,z7x1,z7x2,z7x3,z7x4⟩:=bz r5
 go_region
 go_wp2_with fail
 refine bodyPost_ret (jt rfl rfl (r5.put5 _ _ _ _ _).drew rfl) rfl ?_
 exact ⟨rfl,(f1.put5 (Or.inl (Nat.le_refl _)) _ _ _ _ _).drew⟩
theorem clo_ok (w:World) (p bf nf g1 g2:Nat) (bs:List UInt8) (vm sd first second t:Int) (h:IsRam w p bf nf bs) (r1:Row w g1 #[π (some ⟨p,0,none⟩)] 33) (r2:Row w g2 #[U κ vm,U κ sd,U κ first,U κ second] 63) (x:Res) (hx:ce bs nf second t 1=x) (hk:x.ft.k=0) :
  Calls pQ 173 #[U κ t,π (some ⟨g1,0,none⟩),π (some ⟨g2,0,none⟩)] w fun e w'=>e=ρ (τ #[U κ x.fr,.agg #[U κ x.ft.k,U κ x.ft.s,U κ x.ft.l,β false,U κ x.ft.p]])∧Fr bg w w':=by
 have f1:=Fr.refl bg w
 have t2:(x.ft.k == 0)=true:=by simp[hk]
 have hs:=fun w0 h0=>n5 w0 p bf nf bs second t 1 h0
 rw[hx] at hs
 clear hx hk
 have r5:=ba w #[U κ 0,U κ 0,U κ 0,β false,U κ 0] 50
 replace r1:=r1.alloc (ω #[U κ 0,U κ 0,U κ 0,β false,U κ 0] 50)
 replace r2:=r2.alloc (ω #[U κ 0,U κ 0,U κ 0,β false,U κ 0] 50)
 replace h:=h.alloc (ω #[U κ 0,U κ 0,U κ 0,β false,U κ 0] 50)
 replace f1:=f1.alloc (ω #[U κ 0,U κ 0,U κ 0,β false,U κ 0] 50)
 have d0:=r1.cell 0
 obtain ⟨c1x0,c1x1,c1x2,c1x3⟩:=cl r2
 go_enter Tryz.func173,Tryz.ntmps173
 go_wp2_with fail
 refine(hs _ h).mono ?_
 rintro e v1 ⟨rfl,g1⟩
 clear d0 c1x0 c1x1 c1x2 c1x3
 replace r1:=r1.keep g1 (fun h=>h)
 replace r2:=r2.keep g1 (fun h=>h)
 replace r5:=r5.keep g1 (fun h=>h)
 replace h:=h.keep g1 (fun h=>h) (fun h=>h)
 replace f1:=f1.trans g1
 clear g1
 clear h r1 r2
 have l1:Hid (w.heap.size<v1.heap.size):=r5.lt
 have r8:=ba v1 #[U κ x.ft.k,U κ x.ft.s,U κ x.ft.l,β x.ft.wk,U κ x.ft.p] 50
 replace r5:=r5.alloc (ω #[U κ x.ft.k,U κ x.ft.s,U κ x.ft.l,β x.ft.wk,U κ x.ft.p] 50)
 replace f1:=f1.alloc (ω #[U κ x.ft.k,U κ x.ft.s,U κ x.ft.l,β x.ft.wk,U κ x.ft.p] 50)
 obtain ⟨c2x0,c2x1,c2x2,c2x3,c2x4⟩:=bl r8
 go_wp2_with fail
 refine(dh x.ft _).mono ?_
 rintro e v2 ⟨rfl,g2⟩
 clear c2x0 c2x1 c2x2 c2x3 c2x4
 rw[t2]
 replace r5:=r5.keep g2 (fun h=>h)
 replace r8:=r8.keep g2 (fun h=>h)
 replace f1:=f1.trans g2
 clear g2
 obtain ⟨c3x0,c3x1,c3x2,c3x3,c3x4⟩:=bl r8
 obtain ⟨z4x0,z4x1,z4x2,z4x3,z4x4⟩:=bz r8
 go_wp2_with fail
 clear c3x0 c3x1 c3x2 c3x3 c3x4 z4x0 z4x1 z4x2 z4x3 z4x4
 have l2:=l1.out
 replace r5:=r5.setCell_other (p:=⟨v1.heap.size,3,none⟩) (show v1.heap.size≠_ by omega) (β false)
 replace r8:Row _ _ #[U κ x.ft.k,U κ x.ft.s,U κ x.ft.l,β false,U κ x.ft.p] _:=r8.setCell 3 (β false)
 replace f1:=f1.setCell (p:=⟨v1.heap.size,3,none⟩) (Or.inl (by show w.heap.size≤v1.heap.size;omega)) (β false)
 generalize hWW1:(v2.setCell ⟨v1.heap.size,3,none⟩ (β false))=W1 at r5 r8 f1 ⊢
 clear hWW1
 clear l1 l2
 obtain ⟨c5x0,c5x1,c5x2,c5x3,c5x4⟩:=bl r8
 obtain ⟨c6x0,c6x1,c6x2,c6x3,c6x4⟩:=bl r5
 obtain ⟨z7x0,z7x1,z7x2,z7x3,z7x4⟩:=bz r5
 go_region
 go_wp2_with fail
 refine bodyPost_ret (jt rfl rfl (r5.put5 _ _ _ _ _).drew rfl) rfl ?_
 exact ⟨rfl,(f1.put5 (Or.inl (Nat.le_refl _)) _ _ _ _ _).drew⟩
theorem qs (w:World) (b p bf nf g1 g2:Nat) (bs:List UInt8) (vm sd first second:Int) (h:IsRam w p bf nf bs) (r1:Row w g1 #[π (some ⟨p,0,none⟩)] 33) (r2:Row w g2 #[U κ vm,U κ sd,U κ first,U κ second] 63) (n1:p≠b) (n2:bf≠b) (n3:g1≠b) (n4:g2≠b) :
  Lies 173 #[π (some ⟨g1,0,none⟩),π (some ⟨g2,0,none⟩)] (rj bs nf second) b w:=by
 refine ⟨enters_of Tryz.func173 (by kernel_rfl) rfl,fun w1 t f1=>?_⟩
 rcases nj bs nf second t with ⟨hk,e⟩ | ⟨hk,e⟩
 ·rw[e]
  have z:=(p5 bs nf second t 1 hk).1
  have hc:=clo_bad w1 p bf nf g1 g2 bs vm sd first second t (h.keep f1 n1 n2) (r1.keep f1 n3) (r2.keep f1 n4) (ce bs nf second t 1) rfl hk
  rw[z] at hc
  exact hc
 ·rw[e]
  have z:=granted_f0 hk
  have hc:=clo_ok w1 p bf nf g1 g2 bs vm sd first second t (h.keep f1 n1 n2) (r1.keep f1 n3) (r2.keep f1 n4) (ce bs nf second t 1) rfl hk
  have z':(ce bs nf second t 1).ft.wk=false:=by rw[z];rfl
  rw[←z'] at hc
  exact hc
theorem ndesc_no0 (w:World) (b p bf nf:Nat) (bs:List UInt8) (first second page:Int) (fn:Nat) (caps:Array Value) (h:IsRam w p bf nf bs) (hS:gz w b p 1 0 page) (hbp:p≠b) (hbf:bf≠b) (hg:Lies fn caps (rj bs nf second) b w) (hp:isP page=true) (hk:(ci bs nf second first page 0).ft.k≠0) :
  Calls pQ 174 #[π (some ⟨b,0,none⟩),U κ first,.func (.func fn) #[] caps] w fun e w'=>e=ρ (τ #[.agg #[β false,β false,U κ 0,U κ 0],.agg #[U κ (ci bs nf second first page 0).ft.k,U κ (ci bs nf second first page 0).ft.s,U κ (ci bs nf second first page 0).ft.l,β (ci bs nf second first page 0).ft.wk,U κ (ci bs nf second first page 0).ft.p]])∧Fr (at' b) w w'∧gz w' b p 1 0 page:=by
 rcases js bs nf second first page 0 with ⟨h1,e⟩ | ⟨h1,h2,e⟩ | ⟨_,_,e⟩
 ·rw[e];exact desc_a1 w b p bf nf bs first 1 0 page fn caps _ h hS hbp hbf hg _ rfl h1
 ·rw[e];exact desc_a2 w b p bf nf bs first 1 0 page fn caps _ h hS hbp hbf hg _ rfl hp h1 h2
 ·rw[e] at hk;exact absurd rfl hk
theorem ndesc_no1 (w:World) (b p bf nf:Nat) (bs:List UInt8) (first second page:Int) (fn:Nat) (caps:Array Value) (h:IsRam w p bf nf bs) (hS:gz w b p 1 0 page) (hbp:p≠b) (hbf:bf≠b) (hg:Lies fn caps (rj bs nf second) b w) (hp:isP page=true) (hk:(ci bs nf second first page 0).ft.k=0) (hj:(ci bs nf second (ci bs nf second first page 0).fr page 1).ft.k≠0) :
  Calls pQ 174 #[π (some ⟨b,0,none⟩),U κ first,.func (.func fn) #[] caps] w fun e w'=>e=ρ (τ #[.agg #[β false,β false,U κ 0,U κ 0],.agg #[U κ (ci bs nf second (ci bs nf second first page 0).fr page 1).ft.k,U κ (ci bs nf second (ci bs nf second first page 0).fr page 1).ft.s,U κ (ci bs nf second (ci bs nf second first page 0).fr page 1).ft.l,β (ci bs nf second (ci bs nf second first page 0).fr page 1).ft.wk,U κ (ci bs nf second (ci bs nf second first page 0).fr page 1).ft.p]])∧Fr (at' b) w w'∧gz w' b p 1 1 page:=by
 rcases js bs nf second first page 0 with ⟨h1,e⟩ | ⟨h1,h2,e⟩ | ⟨h1,h2,e⟩
 ·rw[e] at hk;exact absurd hk h1
 ·rw[e] at hk;exact absurd hk h2
 ·have e0:(ci bs nf second first page 0).fr=df (ew bs (rj bs nf second first).fr page 0):=by rw[e]
  rw[e0] at hj ⊢
  rcases js bs nf second (df (ew bs (rj bs nf second first).fr page 0)) page 1 with ⟨h3,e'⟩ | ⟨h3,h4,e'⟩ | ⟨_,_,e'⟩
  ·rw[e'];exact desc_b1 w b p bf nf bs first 1 0 page fn caps _ h hS hbp hbf hg _ rfl hp h1 h2 _ rfl h3
  ·rw[e'];exact desc_b2 w b p bf nf bs first 1 0 page fn caps _ h hS hbp hbf hg _ rfl hp h1 h2 _ rfl h3 h4
  ·rw[e'] at hj;exact absurd rfl hj
theorem ndesc_yes (w:World) (b p bf nf:Nat) (bs:List UInt8) (first second page:Int) (fn:Nat) (caps:Array Value) (h:IsRam w p bf nf bs) (hS:gz w b p 1 0 page) (hbp:p≠b) (hbf:bf≠b) (hg:Lies fn caps (rj bs nf second) b w) (hp:isP page=true) (hk:(ci bs nf second first page 0).ft.k=0) (hj:(ci bs nf second (ci bs nf second first page 0).fr page 1).ft.k=0) :
  Calls pQ 174 #[π (some ⟨b,0,none⟩),U κ first,.func (.func fn) #[] caps] w fun e w'=>e=ρ (τ #[.agg #[β true,β true,U κ (ci bs nf second (ci bs nf second first page 0).fr page 1).ri,U κ (ci bs nf second (ci bs nf second first page 0).fr page 1).fr],.agg #[U κ 0,U κ 0,U κ 0,β false,U κ 0]])∧Fr (at' b) w w'∧gz w' b p 1 1 page:=by
 rcases js bs nf second first page 0 with ⟨h1,e⟩ | ⟨h1,h2,e⟩ | ⟨h1,h2,e⟩
 ·rw[e] at hk;exact absurd hk h1
 ·rw[e] at hk;exact absurd hk h2
 ·have e0:(ci bs nf second first page 0).fr=df (ew bs (rj bs nf second first).fr page 0):=by rw[e]
  rw[e0] at hj ⊢
  rcases js bs nf second (df (ew bs (rj bs nf second first).fr page 0)) page 1 with ⟨h3,e'⟩ | ⟨h3,h4,e'⟩ | ⟨h3,h4,e'⟩
  ·rw[e'] at hj;exact absurd hj h3
  ·rw[e'] at hj;exact absurd hj h4
  ·rw[e'];exact desc_c w b p bf nf bs first 1 0 page fn caps _ h hS hbp hbf hg _ rfl hp h1 h2 _ rfl h3 h4
theorem nested_p (w:World) (p:Nat) (vm sd first second page want:Int) (hp:isP page=false) :
  Calls pQ 158 #[π (some ⟨p,0,none⟩),.agg #[U κ vm,U κ sd,U κ first,U κ second],U κ page,U κ want] w fun e w'=>e=ρ (τ #[U κ 0,U κ 0,.agg #[U κ 3,U κ 0,U κ 0,β false,U κ 0]])∧Fr bg w w':=by
 have f1:=Fr.refl bg w
 have r4:=ba w #[π (some ⟨p,0,none⟩)] 33
 replace f1:=f1.alloc (ω #[π (some ⟨p,0,none⟩)] 33)
 have r5:=bq w (ω #[π (some ⟨p,0,none⟩)] 33) #[U κ vm,U κ sd,U κ first,U κ second] 63
 replace r4:=r4.alloc (ω #[U κ vm,U κ sd,U κ first,U κ second] 63)
 replace f1:=f1.alloc (ω #[U κ vm,U κ sd,U κ first,U κ second] 63)
 have r10:=dt w (ω #[π (some ⟨p,0,none⟩)] 33) (ω #[U κ vm,U κ sd,U κ first,U κ second] 63) #[U κ 0,U κ 0,U κ 0,β false,U κ 0] 50
 replace r4:=r4.alloc (ω #[U κ 0,U κ 0,U κ 0,β false,U κ 0] 50)
 replace r5:=r5.alloc (ω #[U κ 0,U κ 0,U κ 0,β false,U κ 0] 50)
 replace f1:=f1.alloc (ω #[U κ 0,U κ 0,U κ 0,β false,U κ 0] 50)
 go_enter Tryz.func158,Tryz.ntmps158
 go_wp2_with fail
 refine(jo _ _).mono ?_
 rintro e v1 ⟨rfl,rfl⟩
 rw[hp]
 go_wp2_with fail
 refine(sh _).mono ?_
 rintro e v2 ⟨rfl,g2⟩
 replace r4:=r4.keep g2 (fun h=>h)
 replace r5:=r5.keep g2 (fun h=>h)
 replace r10:=r10.keep g2 (fun h=>h)
 replace f1:=f1.trans g2
 clear g2
 obtain ⟨c0x0,c0x1,c0x2,c0x3,c0x4⟩:=bl r10
 obtain ⟨z1x0,z1x1,z1x2,z1x3,z1x4⟩:=bz r10
 go_wp2_with fail
 refine bodyPost_ret (gk rfl rfl (r10.put5 _ _ _ _ _) rfl) rfl ?_
 exact ⟨rfl,f1.put5 (Or.inl (by omega)) _ _ _ _ _⟩
theorem nested_w (w:World) (p:Nat) (vm sd first second page want:Int) (hp:isP page=true) (hw:isR want=false) :
  Calls pQ 158 #[π (some ⟨p,0,none⟩),.agg #[U κ vm,U κ sd,U κ first,U κ second],U κ page,U κ want] w fun e w'=>e=ρ (τ #[U κ 0,U κ 0,.agg #[U κ 3,U κ 0,U κ 0,β false,U κ 0]])∧Fr bg w w':=by
 have f1:=Fr.refl bg w
 have r4:=ba w #[π (some ⟨p,0,none⟩)] 33
 replace f1:=f1.alloc (ω #[π (some ⟨p,0,none⟩)] 33)
 have r5:=bq w (ω #[π (some ⟨p,0,none⟩)] 33) #[U κ vm,U κ sd,U κ first,U κ second] 63
 replace r4:=r4.alloc (ω #[U κ vm,U κ sd,U κ first,U κ second] 63)
 replace f1:=f1.alloc (ω #[U κ vm,U κ sd,U κ first,U κ second] 63)
 have r10:=dt w (ω #[π (some ⟨p,0,none⟩)] 33) (ω #[U κ vm,U κ sd,U κ first,U κ second] 63) #[U κ 0,U κ 0,U κ 0,β false,U κ 0] 50
 replace r4:=r4.alloc (ω #[U κ 0,U κ 0,U κ 0,β false,U κ 0] 50)
 replace r5:=r5.alloc (ω #[U κ 0,U κ 0,U κ 0,β false,U κ 0] 50)
 replace f1:=f1.alloc (ω #[U κ 0,U κ 0,U κ 0,β false,U κ 0] 50)
 go_enter Tryz.func158,Tryz.ntmps158
 go_wp2_with fail
 refine(jo _ _).mono ?_
 rintro e v1 ⟨rfl,rfl⟩
 rw[hp]
 go_wp2_with fail
 refine(jc _ _).mono ?_
 rintro e v2 ⟨rfl,rfl⟩
 rw[hw]
 go_wp2_with fail
 refine(sh _).mono ?_
 rintro e v3 ⟨rfl,g3⟩
 replace r4:=r4.keep g3 (fun h=>h)
 replace r5:=r5.keep g3 (fun h=>h)
 replace r10:=r10.keep g3 (fun h=>h)
 replace f1:=f1.trans g3
 clear g3
 obtain ⟨c0x0,c0x1,c0x2,c0x3,c0x4⟩:=bl r10
 obtain ⟨z1x0,z1x1,z1x2,z1x3,z1x4⟩:=bz r10
 go_wp2_with fail
 refine bodyPost_ret (gk rfl rfl (r10.put5 _ _ _ _ _) rfl) rfl ?_
 exact ⟨rfl,f1.put5 (Or.inl (by omega)) _ _ _ _ _⟩
theorem nested_plain (w:World) (p bf nf:Nat) (bs:List UInt8) (vm sd first second page want:Int) (h:IsRam w p bf nf bs) (hp:isP page=true) (hw:isR want=true) (hf:first<0) (x:Res) (hx:ce bs nf second page want=x) :
  Calls pQ 158 #[π (some ⟨p,0,none⟩),.agg #[U κ vm,U κ sd,U κ first,U κ second],U κ page,U κ want] w fun e w'=>e=ρ (τ #[U κ x.fr,U κ x.ri,.agg #[U κ x.ft.k,U κ x.ft.s,U κ x.ft.l,β x.ft.wk,U κ x.ft.p]])∧Fr bg w w':=by
 have t2:decide (first<0)=true:=decide_eq_true hf
 have hs:=fun w0 h0=>n5 w0 p bf nf bs second page want h0
 rw[hx] at hs
 clear hx hf
 have f1:=Fr.refl bg w
 have r4:=ba w #[π (some ⟨p,0,none⟩)] 33
 replace h:=h.alloc (ω #[π (some ⟨p,0,none⟩)] 33)
 replace f1:=f1.alloc (ω #[π (some ⟨p,0,none⟩)] 33)
 have r5:=bq w (ω #[π (some ⟨p,0,none⟩)] 33) #[U κ vm,U κ sd,U κ first,U κ second] 63
 replace r4:=r4.alloc (ω #[U κ vm,U κ sd,U κ first,U κ second] 63)
 replace h:=h.alloc (ω #[U κ vm,U κ sd,U κ first,U κ second] 63)
 replace f1:=f1.alloc (ω #[U κ vm,U κ sd,U κ first,U κ second] 63)
 have r10:=dt w (ω #[π (some ⟨p,0,none⟩)] 33) (ω #[U κ vm,U κ sd,U κ first,U κ second] 63) #[U κ 0,U κ 0,U κ 0,β false,U κ 0] 50
 replace r4:=r4.alloc (ω #[U κ 0,U κ 0,U κ 0,β false,U κ 0] 50)
 replace r5:=r5.alloc (ω #[U κ 0,U κ 0,U κ 0,β false,U κ 0] 50)
 replace h:=h.alloc (ω #[U κ 0,U κ 0,U κ 0,β false,U κ 0] 50)
 replace f1:=f1.alloc (ω #[U κ 0,U κ 0,U κ 0,β false,U κ 0] 50)
 have d0:=r4.cell 0
 obtain ⟨c1x0,c1x1,c1x2,c1x3⟩:=cl r5
 go_enter Tryz.func158,Tryz.ntmps158
 go_wp2_with fail
 refine(jo _ _).mono ?_
 rintro e v1 ⟨rfl,rfl⟩
 rw[hp]
 go_wp2_with fail
 refine(jc _ _).mono ?_
 rintro e v2 ⟨rfl,rfl⟩
 rw[hw]
 go_wp2_with fail
 refine(hs _ h).mono ?_
 rintro e v3 ⟨rfl,g3⟩
 clear d0 c1x0 c1x1 c1x2 c1x3
 replace r4:=r4.keep g3 (fun h=>h)
 replace r5:=r5.keep g3 (fun h=>h)
 replace r10:=r10.keep g3 (fun h=>h)
 replace h:=h.keep g3 (fun h=>h) (fun h=>h)
 replace f1:=f1.trans g3
 clear g3
 obtain ⟨c2x0,c2x1,c2x2,c2x3,c2x4⟩:=bl r10
 obtain ⟨z3x0,z3x1,z3x2,z3x3,z3x4⟩:=bz r10
 go_wp2_with fail
 refine bodyPost_ret (gk rfl rfl (r10.put5 _ _ _ _ _) rfl) rfl ?_
 exact ⟨rfl,f1.put5 (Or.inl (by omega)) _ _ _ _ _⟩
theorem nested_g0 (w:World) (p bf nf:Nat) (bs:List UInt8) (vm sd first second page want:Int) (h:IsRam w p bf nf bs) (hp:isP page=true) (hw:isR want=true) (hf:¬ first<0) (x:Res) (hx:(ci bs nf second first page 0)=x) (hk:x.ft.k≠0) :
  Calls pQ 158 #[π (some ⟨p,0,none⟩),.agg #[U κ vm,U κ sd,U κ first,U κ second],U κ page,U κ want] w fun e w'=>e=ρ (τ #[U κ 0,U κ 0,.agg #[U κ x.ft.k,U κ x.ft.s,U κ x.ft.l,β x.ft.wk,U κ x.ft.p]])∧Fr bg w w':=by
 have t3:(x.ft.k == 0)=false:=by simp[hk]
 have n1:Hid (p<w.heap.size):=h.head.lt
 have n2:Hid (bf<w.heap.size):=h.row.lt
 have t2:decide (first<0)=false:=decide_eq_false hf
 clear hf
 have hp0:=h.head.lt
 have hb0:=h.row.lt
 have f1:=Fr.refl bg w
 have r4:=ba w #[π (some ⟨p,0,none⟩)] 33
 replace h:=h.alloc (ω #[π (some ⟨p,0,none⟩)] 33)
 replace f1:=f1.alloc (ω #[π (some ⟨p,0,none⟩)] 33)
 have r5:=bq w (ω #[π (some ⟨p,0,none⟩)] 33) #[U κ vm,U κ sd,U κ first,U κ second] 63
 replace r4:=r4.alloc (ω #[U κ vm,U κ sd,U κ first,U κ second] 63)
 replace h:=h.alloc (ω #[U κ vm,U κ sd,U κ first,U κ second] 63)
 replace f1:=f1.alloc (ω #[U κ vm,U κ sd,U κ first,U κ second] 63)
 have r10:=dt w (ω #[π (some ⟨p,0,none⟩)] 33) (ω #[U κ vm,U κ sd,U κ first,U κ second] 63) #[U κ 0,U κ 0,U κ 0,β false,U κ 0] 50
 replace r4:=r4.alloc (ω #[U κ 0,U κ 0,U κ 0,β false,U κ 0] 50)
 replace r5:=r5.alloc (ω #[U κ 0,U κ 0,U κ 0,β false,U κ 0] 50)
 replace h:=h.alloc (ω #[U κ 0,U κ 0,U κ 0,β false,U κ 0] 50)
 replace f1:=f1.alloc (ω #[U κ 0,U κ 0,U κ 0,β false,U κ 0] 50)
 have r12:=qm w (ω #[π (some ⟨p,0,none⟩)] 33) (ω #[U κ vm,U κ sd,U κ first,U κ second] 63) (ω #[U κ 0,U κ 0,U κ 0,β false,U κ 0] 50) #[π (some ⟨p,0,none⟩),U κ 1,U κ 0,U κ page] 232
 replace r4:=r4.alloc (ω #[π (some ⟨p,0,none⟩),U κ 1,U κ 0,U κ page] 232)
 replace r5:=r5.alloc (ω #[π (some ⟨p,0,none⟩),U κ 1,U κ 0,U κ page] 232)
 replace r10:=r10.alloc (ω #[π (some ⟨p,0,none⟩),U κ 1,U κ 0,U κ page] 232)
 replace h:=h.alloc (ω #[π (some ⟨p,0,none⟩),U κ 1,U κ 0,U κ page] 232)
 replace f1:=f1.alloc (ω #[π (some ⟨p,0,none⟩),U κ 1,U κ 0,U κ page] 232)
 have hg:=qs _ (w.heap.size+1+1+1) p bf nf _ _ bs vm sd first second h r4 r5 (by omega) (by omega) (by omega) (by omega)
 have hd:=ndesc_no0 _ (w.heap.size+1+1+1) p bf nf bs first second page _ _ h r12 (by omega) (by omega) hg hp (by rw[hx];exact hk)
 rw[hx] at hd
 clear hx hk
 clear hg hp0 hb0
 have d0:=r4.cell 0
 obtain ⟨c1x0,c1x1,c1x2,c1x3⟩:=cl r5
 go_enter Tryz.func158,Tryz.ntmps158
 go_wp2_with fail
 refine(jo _ _).mono ?_
 rintro e v1 ⟨rfl,rfl⟩
 rw[hp]
 go_wp2_with fail
 refine(jc _ _).mono ?_
 rintro e v2 ⟨rfl,rfl⟩
 rw[hw]
 go_wp2_with fail
 refine hd.mono ?_
 rintro e v1 ⟨rfl,g1,s1⟩
 clear hd
 clear d0 c1x0 c1x1 c1x2 c1x3
 replace r4:=r4.keep g1 (show _≠_ by omega)
 replace r5:=r5.keep g1 (show _≠_ by omega)
 replace r10:=r10.keep g1 (show _≠_ by omega)
 replace h:=h.keep g1 (show _≠_ by have:=n1.out;omega) (show _≠_ by have:=n2.out;omega)
 replace f1:=f1.newerS g1 (by omega)
 replace r12:Row _ _ _ _:=s1
 have l1:Hid (w.heap.size+1+1+1<v1.heap.size):=r12.lt
 clear g1 s1
 have r13:=ba v1 #[β false,β false,U κ 0,U κ 0] 77
 replace r4:=r4.alloc (ω #[β false,β false,U κ 0,U κ 0] 77)
 replace r5:=r5.alloc (ω #[β false,β false,U κ 0,U κ 0] 77)
 replace r10:=r10.alloc (ω #[β false,β false,U κ 0,U κ 0] 77)
 replace r12:=r12.alloc (ω #[β false,β false,U κ 0,U κ 0] 77)
 replace h:=h.alloc (ω #[β false,β false,U κ 0,U κ 0] 77)
 replace f1:=f1.alloc (ω #[β false,β false,U κ 0,U κ 0] 77)
 obtain ⟨c2x0,c2x1,c2x2,c2x3,c2x4⟩:=bl r10
 obtain ⟨z3x0,z3x1,z3x2,z3x3,z3x4⟩:=bz r10
 go_wp2_with fail
 clear c2x0 c2x1 c2x2 c2x3 c2x4 z3x0 z3x1 z3x2 z3x3 z3x4
 have l2:=l1.out
 have m1:=n1.out
 have m2:=n2.out
 replace r4:=r4.past5 (b':=w.heap.size+1+1) (by omega) (U κ x.ft.k) (U κ x.ft.s) (U κ x.ft.l) (β x.ft.wk) (U κ x.ft.p)
 replace r5:=r5.past5 (b':=w.heap.size+1+1) (by omega) (U κ x.ft.k) (U κ x.ft.s) (U κ x.ft.l) (β x.ft.wk) (U κ x.ft.p)
 replace r12:=r12.past5 (b':=w.heap.size+1+1) (by omega) (U κ x.ft.k) (U κ x.ft.s) (U κ x.ft.l) (β x.ft.wk) (U κ x.ft.p)
 replace r13:=r13.past5 (b':=w.heap.size+1+1) (by omega) (U κ x.ft.k) (U κ x.ft.s) (U κ x.ft.l) (β x.ft.wk) (U κ x.ft.p)
 replace r10:=r10.put5 (U κ x.ft.k) (U κ x.ft.s) (U κ x.ft.l) (β x.ft.wk) (U κ x.ft.p)
 replace h:=h.put5 (b:=w.heap.size+1+1) (by omega) (by omega) (U κ x.ft.k) (U κ x.ft.s) (U κ x.ft.l) (β x.ft.wk) (U κ x.ft.p)
 replace f1:=f1.put5 (b:=w.heap.size+1+1) (Or.inl (by omega)) (U κ x.ft.k) (U κ x.ft.s) (U κ x.ft.l) (β x.ft.wk) (U κ x.ft.p)
 unfold put5 at r4 r5 r10 r12 r13 h f1
 clear l2 m1 m2
 refine(dh x.ft _).mono ?_
 rintro e v2 ⟨rfl,g2⟩
 rw[t3]
 replace r4:=r4.keep g2 (fun h=>h)
 replace r5:=r5.keep g2 (fun h=>h)
 replace r10:=r10.keep g2 (fun h=>h)
 replace r12:=r12.keep g2 (fun h=>h)
 replace r13:=r13.keep g2 (fun h=>h)
 replace h:=h.keep g2 (fun h=>h) (fun h=>h)
 replace f1:=f1.trans g2
 clear g2
 obtain ⟨c4x0,c4x1,c4x2,c4x3,c4x4⟩:=bl r10
 obtain ⟨z5x0,z5x1,z5x2,z5x3,z5x4⟩:=bz r10
 go_wp2_with fail
 go_region
 go_wp2_with fail
 refine bodyPost_ret (gk rfl rfl (r10.put5 _ _ _ _ _).drew rfl) rfl ?_
 exact ⟨rfl,(f1.put5 (Or.inl (by omega)) _ _ _ _ _).drew⟩
theorem nested_g1 (w:World) (p bf nf:Nat) (bs:List UInt8) (vm sd first second page want:Int) (h:IsRam w p bf nf bs) (hp:isP page=true) (hw:isR want=true) (hf:¬ first<0) (hk:(ci bs nf second first page 0).ft.k=0) (y:Res) (hy:(ci bs nf second (ci bs nf second first page 0).fr page 1)=y) (hj:y.ft.k≠0) :
  Calls pQ 158 #[π (some ⟨p,0,none⟩),.agg #[U κ vm,U κ sd,U κ first,U κ second],U κ page,U κ want] w fun e w'=>e=ρ (τ #[U κ 0,U κ 0,.agg #[U κ y.ft.k,U κ y.ft.s,U κ y.ft.l,β y.ft.wk,U κ y.ft.p]])∧Fr bg w w':=by
 have t3:(y.ft.k == 0)=false:=by simp[hj]
 have n1:Hid (p<w.heap.size):=h.head.lt
 have n2:Hid (bf<w.heap.size):=h.row.lt
 have t2:decide (first<0)=false:=decide_eq_false hf
 clear hf
 have hp0:=h.head.lt
 have hb0:=h.row.lt
 have f1:=Fr.refl bg w
 have r4:=ba w #[π (some ⟨p,0,none⟩)] 33
 replace h:=h.alloc (ω #[π (some ⟨p,0,none⟩)] 33)
 replace f1:=f1.alloc (ω #[π (some ⟨p,0,none⟩)] 33)
 have r5:=bq w (ω #[π (some ⟨p,0,none⟩)] 33) #[U κ vm,U κ sd,U κ first,U κ second] 63
 replace r4:=r4.alloc (ω #[U κ vm,U κ sd,U κ first,U κ second] 63)
 replace h:=h.alloc (ω #[U κ vm,U κ sd,U κ first,U κ second] 63)
 replace f1:=f1.alloc (ω #[U κ vm,U κ sd,U κ first,U κ second] 63)
 have r10:=dt w (ω #[π (some ⟨p,0,none⟩)] 33) (ω #[U κ vm,U κ sd,U κ first,U κ second] 63) #[U κ 0,U κ 0,U κ 0,β false,U κ 0] 50
 replace r4:=r4.alloc (ω #[U κ 0,U κ 0,U κ 0,β false,U κ 0] 50)
 replace r5:=r5.alloc (ω #[U κ 0,U κ 0,U κ 0,β false,U κ 0] 50)
 replace h:=h.alloc (ω #[U κ 0,U κ 0,U κ 0,β false,U κ 0] 50)
 replace f1:=f1.alloc (ω #[U κ 0,U κ 0,U κ 0,β false,U κ 0] 50)
 have r12:=qm w (ω #[π (some ⟨p,0,none⟩)] 33) (ω #[U κ vm,U κ sd,U κ first,U κ second] 63) (ω #[U κ 0,U κ 0,U κ 0,β false,U κ 0] 50) #[π (some ⟨p,0,none⟩),U κ 1,U κ 0,U κ page] 232
 replace r4:=r4.alloc (ω #[π (some ⟨p,0,none⟩),U κ 1,U κ 0,U κ page] 232)
 replace r5:=r5.alloc (ω #[π (some ⟨p,0,none⟩),U κ 1,U κ 0,U κ page] 232)
 replace r10:=r10.alloc (ω #[π (some ⟨p,0,none⟩),U κ 1,U κ 0,U κ page] 232)
 replace h:=h.alloc (ω #[π (some ⟨p,0,none⟩),U κ 1,U κ 0,U κ page] 232)
 replace f1:=f1.alloc (ω #[π (some ⟨p,0,none⟩),U κ 1,U κ 0,U κ page] 232)
 have hg:=qs _ (w.heap.size+1+1+1) p bf nf _ _ bs vm sd first second h r4 r5 (by omega) (by omega) (by omega) (by omega)
 have hd:=ndesc_no1 _ (w.heap.size+1+1+1) p bf nf bs first second page _ _ h r12 (by omega) (by omega) hg hp hk (by rw[hy];exact hj)
 rw[hy] at hd
 clear hy hk hj
 clear hg hp0 hb0
 have d0:=r4.cell 0
 obtain ⟨c1x0,c1x1,c1x2,c1x3⟩:=cl r5
 go_enter Tryz.func158,Tryz.ntmps158
 go_wp2_with fail
 refine(jo _ _).mono ?_
 rintro e v1 ⟨rfl,rfl⟩
 rw[hp]
 go_wp2_with fail
 refine(jc _ _).mono ?_
 rintro e v2 ⟨rfl,rfl⟩
 rw[hw]
 go_wp2_with fail
 refine hd.mono ?_
 rintro e v1 ⟨rfl,g1,s1⟩
 clear hd
 clear d0 c1x0 c1x1 c1x2 c1x3
 replace r4:=r4.keep g1 (show _≠_ by omega)
 replace r5:=r5.keep g1 (show _≠_ by omega)
 replace r10:=r10.keep g1 (show _≠_ by omega)
 replace h:=h.keep g1 (show _≠_ by have:=n1.out;omega) (show _≠_ by have:=n2.out;omega)
 replace f1:=f1.newerS g1 (by omega)
 replace r12:Row _ _ _ _:=s1
 have l1:Hid (w.heap.size+1+1+1<v1.heap.size):=r12.lt
 clear g1 s1
 have r13:=ba v1 #[β false,β false,U κ 0,U κ 0] 77
 replace r4:=r4.alloc (ω #[β false,β false,U κ 0,U κ 0] 77)
 replace r5:=r5.alloc (ω #[β false,β false,U κ 0,U κ 0] 77)
 replace r10:=r10.alloc (ω #[β false,β false,U κ 0,U κ 0] 77)
 replace r12:=r12.alloc (ω #[β false,β false,U κ 0,U κ 0] 77)
 replace h:=h.alloc (ω #[β false,β false,U κ 0,U κ 0] 77)
 replace f1:=f1.alloc (ω #[β false,β false,U κ 0,U κ 0] 77)
 obtain ⟨c2x0,c2x1,c2x2,c2x3,c2x4⟩:=bl r10
 obtain ⟨z3x0,z3x1,z3x2,z3x3,z3x4⟩:=bz r10
 go_wp2_with fail
 clear c2x0 c2x1 c2x2 c2x3 c2x4 z3x0 z3x1 z3x2 z3x3 z3x4
 have l2:=l1.out
 have m1:=n1.out
 have m2:=n2.out
 replace r4:=r4.past5 (b':=w.heap.size+1+1) (by omega) (U κ y.ft.k) (U κ y.ft.s) (U κ y.ft.l) (β y.ft.wk) (U κ y.ft.p)
 replace r5:=r5.past5 (b':=w.heap.size+1+1) (by omega) (U κ y.ft.k) (U κ y.ft.s) (U κ y.ft.l) (β y.ft.wk) (U κ y.ft.p)
 replace r12:=r12.past5 (b':=w.heap.size+1+1) (by omega) (U κ y.ft.k) (U κ y.ft.s) (U κ y.ft.l) (β y.ft.wk) (U κ y.ft.p)
 replace r13:=r13.past5 (b':=w.heap.size+1+1) (by omega) (U κ y.ft.k) (U κ y.ft.s) (U κ y.ft.l) (β y.ft.wk) (U κ y.ft.p)
 replace r10:=r10.put5 (U κ y.ft.k) (U κ y.ft.s) (U κ y.ft.l) (β y.ft.wk) (U κ y.ft.p)
 replace h:=h.put5 (b:=w.heap.size+1+1) (by omega) (by omega) (U κ y.ft.k) (U κ y.ft.s) (U κ y.ft.l) (β y.ft.wk) (U κ y.ft.p)
 replace f1:=f1.put5 (b:=w.heap.size+1+1) (Or.inl (by omega)) (U κ y.ft.k) (U κ y.ft.s) (U κ y.ft.l) (β y.ft.wk) (U κ y.ft.p)
 unfold put5 at r4 r5 r10 r12 r13 h f1
 clear l2 m1 m2
 refine(dh y.ft _).mono ?_
 rintro e v2 ⟨rfl,g2⟩
 rw[t3]
 replace r4:=r4.keep g2 (fun h=>h)
 replace r5:=r5.keep g2 (fun h=>h)
 replace r10:=r10.keep g2 (fun h=>h)
 replace r12:=r12.keep g2 (fun h=>h)
 replace r13:=r13.keep g2 (fun h=>h)
 replace h:=h.keep g2 (fun h=>h) (fun h=>h)
 replace f1:=f1.trans g2
 clear g2
 obtain ⟨c4x0,c4x1,c4x2,c4x3,c4x4⟩:=bl r10
 obtain ⟨z5x0,z5x1,z5x2,z5x3,z5x4⟩:=bz r10
 go_wp2_with fail
 go_region
 go_wp2_with fail
 refine bodyPost_ret (gk rfl rfl (r10.put5 _ _ _ _ _).drew rfl) rfl ?_
 exact ⟨rfl,(f1.put5 (Or.inl (by omega)) _ _ _ _ _).drew⟩
theorem nested_no (w:World) (p bf nf:Nat) (bs:List UInt8) (vm sd first second page want:Int) (h:IsRam w p bf nf bs) (hp:isP page=true) (hw:isR want=true) (hf:¬ first<0) (hk:(ci bs nf second first page 0).ft.k=0) (y:Res) (hy:(ci bs nf second (ci bs nf second first page 0).fr page 1)=y) (hj:y.ft.k=0) (hb:bits .and .i64 y.ri want=0) :
  Calls pQ 158 #[π (some ⟨p,0,none⟩),.agg #[U κ vm,U κ sd,U κ first,U κ second],U κ page,U κ want] w fun e w'=>e=ρ (τ #[U κ 0,U κ 0,.agg #[U κ 2,U κ 1,U κ 1,β false,U κ page]])∧Fr bg w w':=by
 have t3:(bits .and .i64 y.ri want == 0)=true:=by simp[hb]
 clear hb
 have n1:Hid (p<w.heap.size):=h.head.lt
 have n2:Hid (bf<w.heap.size):=h.row.lt
 have t2:decide (first<0)=false:=decide_eq_false hf
 clear hf
 have hp0:=h.head.lt
 have hb0:=h.row.lt
 have f1:=Fr.refl bg w
 have r4:=ba w #[π (some ⟨p,0,none⟩)] 33
 replace h:=h.alloc (ω #[π (some ⟨p,0,none⟩)] 33)
 replace f1:=f1.alloc (ω #[π (some ⟨p,0,none⟩)] 33)
 have r5:=bq w (ω #[π (some ⟨p,0,none⟩)] 33) #[U κ vm,U κ sd,U κ first,U κ second] 63
 replace r4:=r4.alloc (ω #[U κ vm,U κ sd,U κ first,U κ second] 63)
 replace h:=h.alloc (ω #[U κ vm,U κ sd,U κ first,U κ second] 63)
 replace f1:=f1.alloc (ω #[U κ vm,U κ sd,U κ first,U κ second] 63)
 have r10:=dt w (ω #[π (some ⟨p,0,none⟩)] 33) (ω #[U κ vm,U κ sd,U κ first,U κ second] 63) #[U κ 0,U κ 0,U κ 0,β false,U κ 0] 50
 replace r4:=r4.alloc (ω #[U κ 0,U κ 0,U κ 0,β false,U κ 0] 50)
 replace r5:=r5.alloc (ω #[U κ 0,U κ 0,U κ 0,β false,U κ 0] 50)
 replace h:=h.alloc (ω #[U κ 0,U κ 0,U κ 0,β false,U κ 0] 50)
 replace f1:=f1.alloc (ω #[U κ 0,U κ 0,U κ 0,β false,U κ 0] 50)
 have r12:=qm w (ω #[π (some ⟨p,0,none⟩)] 33) (ω #[U κ vm,U κ sd,U κ first,U κ second] 63) (ω #[U κ 0,U κ 0,U κ 0,β false,U κ 0] 50) #[π (some ⟨p,0,none⟩),U κ 1,U κ 0,U κ page] 232
 replace r4:=r4.alloc (ω #[π (some ⟨p,0,none⟩),U κ 1,U κ 0,U κ page] 232)
 replace r5:=r5.alloc (ω #[π (some ⟨p,0,none⟩),U κ 1,U κ 0,U κ page] 232)
 replace r10:=r10.alloc (ω #[π (some ⟨p,0,none⟩),U κ 1,U κ 0,U κ page] 232)
 replace h:=h.alloc (ω #[π (some ⟨p,0,none⟩),U κ 1,U κ 0,U κ page] 232)
 replace f1:=f1.alloc (ω #[π (some ⟨p,0,none⟩),U κ 1,U κ 0,U κ page] 232)
 have hg:=qs _ (w.heap.size+1+1+1) p bf nf _ _ bs vm sd first second h r4 r5 (by omega) (by omega) (by omega) (by omega)
 have hd:=ndesc_yes _ (w.heap.size+1+1+1) p bf nf bs first second page _ _ h r12 (by omega) (by omega) hg hp hk (by rw[hy];exact hj)
 rw[hy] at hd
 clear hy hk hj
 clear hg hp0 hb0
 have d0:=r4.cell 0
 obtain ⟨c1x0,c1x1,c1x2,c1x3⟩:=cl r5
 go_enter Tryz.func158,Tryz.ntmps158
 go_wp2_with fail
 refine(jo _ _).mono ?_
 rintro e v1 ⟨rfl,rfl⟩
 rw[hp]
 go_wp2_with fail
 refine(jc _ _).mono ?_
 rintro e v2 ⟨rfl,rfl⟩
 rw[hw]
 go_wp2_with fail
 refine hd.mono ?_
 rintro e v1 ⟨rfl,g1,s1⟩
 clear hd
 clear d0 c1x0 c1x1 c1x2 c1x3
 replace r4:=r4.keep g1 (show _≠_ by omega)
 replace r5:=r5.keep g1 (show _≠_ by omega)
 replace r10:=r10.keep g1 (show _≠_ by omega)
 replace h:=h.keep g1 (show _≠_ by have:=n1.out;omega) (show _≠_ by have:=n2.out;omega)
 replace f1:=f1.newerS g1 (by omega)
 replace r12:Row _ _ _ _:=s1
 have l1:Hid (w.heap.size+1+1+1<v1.heap.size):=r12.lt
 clear g1 s1
 have r13:=ba v1 #[β true,β true,U κ y.ri,U κ y.fr] 77
 replace r4:=r4.alloc (ω #[β true,β true,U κ y.ri,U κ y.fr] 77)
 replace r5:=r5.alloc (ω #[β true,β true,U κ y.ri,U κ y.fr] 77)
 replace r10:=r10.alloc (ω #[β true,β true,U κ y.ri,U κ y.fr] 77)
 replace r12:=r12.alloc (ω #[β true,β true,U κ y.ri,U κ y.fr] 77)
 replace h:=h.alloc (ω #[β true,β true,U κ y.ri,U κ y.fr] 77)
 replace f1:=f1.alloc (ω #[β true,β true,U κ y.ri,U κ y.fr] 77)
 obtain ⟨c2x0,c2x1,c2x2,c2x3,c2x4⟩:=bl r10
 obtain ⟨z3x0,z3x1,z3x2,z3x3,z3x4⟩:=bz r10
 go_wp2_with fail
 clear c2x0 c2x1 c2x2 c2x3 c2x4 z3x0 z3x1 z3x2 z3x3 z3x4
 have l2:=l1.out
 have m1:=n1.out
 have m2:=n2.out
 replace r4:=r4.past5 (b':=w.heap.size+1+1) (by omega) (U κ 0) (U κ 0) (U κ 0) (β false) (U κ 0)
 replace r5:=r5.past5 (b':=w.heap.size+1+1) (by omega) (U κ 0) (U κ 0) (U κ 0) (β false) (U κ 0)
 replace r12:=r12.past5 (b':=w.heap.size+1+1) (by omega) (U κ 0) (U κ 0) (U κ 0) (β false) (U κ 0)
 replace r13:=r13.past5 (b':=w.heap.size+1+1) (by omega) (U κ 0) (U κ 0) (U κ 0) (β false) (U κ 0)
 replace r10:=r10.put5 (U κ 0) (U κ 0) (U κ 0) (β false) (U κ 0)
 replace h:=h.put5 (b:=w.heap.size+1+1) (by omega) (by omega) (U κ 0) (U κ 0) (U κ 0) (β false) (U κ 0)
 replace f1:=f1.put5 (b:=w.heap.size+1+1) (Or.inl (by omega)) (U κ 0) (U κ 0) (U κ 0) (β false) (U κ 0)
 unfold put5 at r4 r5 r10 r12 r13 h f1
 clear l2 m1 m2
 refine(dh ⟨0,0,0,false,0⟩ _).mono ?_
 rintro e v2 ⟨rfl,g2⟩
 replace r4:=r4.keep g2 (fun h=>h)
 replace r5:=r5.keep g2 (fun h=>h)
 replace r10:=r10.keep g2 (fun h=>h)
 replace r12:=r12.keep g2 (fun h=>h)
 replace r13:=r13.keep g2 (fun h=>h)
 replace h:=h.keep g2 (fun h=>h) (fun h=>h)
 replace f1:=f1.trans g2
 clear g2
 obtain ⟨c4x0,c4x1,c4x2,c4x3⟩:=cl r13
 go_wp2_with fail
 refine(lg _ _ _ _ _ _ _ r12).mono ?_
 rintro e v3 ⟨rfl,g3⟩
 clear c4x0 c4x1 c4x2 c4x3
 replace r4:=r4.keep g3 (fun h=>h)
 replace r5:=r5.keep g3 (fun h=>h)
 replace r10:=r10.keep g3 (fun h=>h)
 replace r12:=r12.keep g3 (fun h=>h)
 replace r13:=r13.keep g3 (fun h=>h)
 replace h:=h.keep g3 (fun h=>h) (fun h=>h)
 replace f1:=f1.trans g3
 clear g3
 obtain ⟨c5x0,c5x1,c5x2,c5x3,c5x4⟩:=bl r10
 obtain ⟨z6x0,z6x1,z6x2,z6x3,z6x4⟩:=bz r10
 go_wp2_with fail
 refine bodyPost_ret (gk rfl rfl (r10.put5 _ _ _ _ _) rfl) rfl ?_
 exact ⟨rfl,f1.put5 (Or.inl (by omega)) _ _ _ _ _⟩
theorem nested_fin (w:World) (p bf nf:Nat) (bs:List UInt8) (vm sd first second page want:Int) (h:IsRam w p bf nf bs) (hp:isP page=true) (hw:isR want=true) (hf:¬ first<0) (hk:(ci bs nf second first page 0).ft.k=0) (y:Res) (hy:(ci bs nf second (ci bs nf second first page 0).fr page 1)=y) (hj:y.ft.k=0) (hb:bits .and .i64 y.ri want≠0) (z:Res) (hz:ce bs nf second y.fr want=z) :
  Calls pQ 158 #[π (some ⟨p,0,none⟩),.agg #[U κ vm,U κ sd,U κ first,U κ second],U κ page,U κ want] w fun e w'=>e=ρ (τ #[U κ z.fr,U κ (bits .and .i64 z.ri y.ri),.agg #[U κ z.ft.k,U κ z.ft.s,U κ z.ft.l,β z.ft.wk,U κ z.ft.p]])∧Fr bg w w':=by
 have t3:(bits .and .i64 y.ri want == 0)=false:=by simp[hb]
 clear hb
 have hs:=fun w0 h0=>n5 w0 p bf nf bs second y.fr want h0
 rw[hz] at hs
 clear hz
 have n1:Hid (p<w.heap.size):=h.head.lt
 have n2:Hid (bf<w.heap.size):=h.row.lt
 have t2:decide (first<0)=false:=decide_eq_false hf
 clear hf
 have hp0:=h.head.lt
 have hb0:=h.row.lt
 have f1:=Fr.refl bg w
 have r4:=ba w #[π (some ⟨p,0,none⟩)] 33
 replace h:=h.alloc (ω #[π (some ⟨p,0,none⟩)] 33)
 replace f1:=f1.alloc (ω #[π (some ⟨p,0,none⟩)] 33)
 have r5:=bq w (ω #[π (some ⟨p,0,none⟩)] 33) #[U κ vm,U κ sd,U κ first,U κ second] 63
 replace r4:=r4.alloc (ω #[U κ vm,U κ sd,U κ first,U κ second] 63)
 replace h:=h.alloc (ω #[U κ vm,U κ sd,U κ first,U κ second] 63)
 replace f1:=f1.alloc (ω #[U κ vm,U κ sd,U κ first,U κ second] 63)
 have r10:=dt w (ω #[π (some ⟨p,0,none⟩)] 33) (ω #[U κ vm,U κ sd,U κ first,U κ second] 63) #[U κ 0,U κ 0,U κ 0,β false,U κ 0] 50
 replace r4:=r4.alloc (ω #[U κ 0,U κ 0,U κ 0,β false,U κ 0] 50)
 replace r5:=r5.alloc (ω #[U κ 0,U κ 0,U κ 0,β false,U κ 0] 50)
 replace h:=h.alloc (ω #[U κ 0,U κ 0,U κ 0,β false,U κ 0] 50)
 replace f1:=f1.alloc (ω #[U κ 0,U κ 0,U κ 0,β false,U κ 0] 50)
 have r12:=qm w (ω #[π (some ⟨p,0,none⟩)] 33) (ω #[U κ vm,U κ sd,U κ first,U κ second] 63) (ω #[U κ 0,U κ 0,U κ 0,β false,U κ 0] 50) #[π (some ⟨p,0,none⟩),U κ 1,U κ 0,U κ page] 232
 replace r4:=r4.alloc (ω #[π (some ⟨p,0,none⟩),U κ 1,U κ 0,U κ page] 232)
 replace r5:=r5.alloc (ω #[π (some ⟨p,0,none⟩),U κ 1,U κ 0,U κ page] 232)
 replace r10:=r10.alloc (ω #[π (some ⟨p,0,none⟩),U κ 1,U κ 0,U κ page] 232)
 replace h:=h.alloc (ω #[π (some ⟨p,0,none⟩),U κ 1,U κ 0,U κ page] 232)
 replace f1:=f1.alloc (ω #[π (some ⟨p,0,none⟩),U κ 1,U κ 0,U κ page] 232)
 have hg:=qs _ (w.heap.size+1+1+1) p bf nf _ _ bs vm sd first second h r4 r5 (by omega) (by omega) (by omega) (by omega)
 have hd:=ndesc_yes _ (w.heap.size+1+1+1) p bf nf bs first second page _ _ h r12 (by omega) (by omega) hg hp hk (by rw[hy];exact hj)
 rw[hy] at hd
 clear hy hk hj
 clear hg hp0 hb0
 have d0:=r4.cell 0
 obtain ⟨c1x0,c1x1,c1x2,c1x3⟩:=cl r5
 go_enter Tryz.func158,Tryz.ntmps158
 go_wp2_with fail
 refine(jo _ _).mono ?_
 rintro e v1 ⟨rfl,rfl⟩
 rw[hp]
 go_wp2_with fail
 refine(jc _ _).mono ?_
 rintro e v2 ⟨rfl,rfl⟩
 rw[hw]
 go_wp2_with fail
 refine hd.mono ?_
 rintro e v1 ⟨rfl,g1,s1⟩
 clear hd
 clear d0 c1x0 c1x1 c1x2 c1x3
 replace r4:=r4.keep g1 (show _≠_ by omega)
 replace r5:=r5.keep g1 (show _≠_ by omega)
 replace r10:=r10.keep g1 (show _≠_ by omega)
 replace h:=h.keep g1 (show _≠_ by have:=n1.out;omega) (show _≠_ by have:=n2.out;omega)
 replace f1:=f1.newerS g1 (by omega)
 replace r12:Row _ _ _ _:=s1
 have l1:Hid (w.heap.size+1+1+1<v1.heap.size):=r12.lt
 clear g1 s1
 have r13:=ba v1 #[β true,β true,U κ y.ri,U κ y.fr] 77
 replace r4:=r4.alloc (ω #[β true,β true,U κ y.ri,U κ y.fr] 77)
 replace r5:=r5.alloc (ω #[β true,β true,U κ y.ri,U κ y.fr] 77)
 replace r10:=r10.alloc (ω #[β true,β true,U κ y.ri,U κ y.fr] 77)
 replace r12:=r12.alloc (ω #[β true,β true,U κ y.ri,U κ y.fr] 77)
 replace h:=h.alloc (ω #[β true,β true,U κ y.ri,U κ y.fr] 77)
 replace f1:=f1.alloc (ω #[β true,β true,U κ y.ri,U κ y.fr] 77)
 obtain ⟨c2x0,c2x1,c2x2,c2x3,c2x4⟩:=bl r10
 obtain ⟨z3x0,z3x1,z3x2,z3x3,z3x4⟩:=bz r10
 go_wp2_with fail
 clear c2x0 c2x1 c2x2 c2x3 c2x4 z3x0 z3x1 z3x2 z3x3 z3x4
 have l2:=l1.out
 have m1:=n1.out
 have m2:=n2.out
 replace r4:=r4.past5 (b':=w.heap.size+1+1) (by omega) (U κ 0) (U κ 0) (U κ 0) (β false) (U κ 0)
 replace r5:=r5.past5 (b':=w.heap.size+1+1) (by omega) (U κ 0) (U κ 0) (U κ 0) (β false) (U κ 0)
 replace r12:=r12.past5 (b':=w.heap.size+1+1) (by omega) (U κ 0) (U κ 0) (U κ 0) (β false) (U κ 0)
 replace r13:=r13.past5 (b':=w.heap.size+1+1) (by omega) (U κ 0) (U κ 0) (U κ 0) (β false) (U κ 0)
 replace r10:=r10.put5 (U κ 0) (U κ 0) (U κ 0) (β false) (U κ 0)
 replace h:=h.put5 (b:=w.heap.size+1+1) (by omega) (by omega) (U κ 0) (U κ 0) (U κ 0) (β false) (U κ 0)
 replace f1:=f1.put5 (b:=w.heap.size+1+1) (Or.inl (by omega)) (U κ 0) (U κ 0) (U κ 0) (β false) (U κ 0)
 unfold put5 at r4 r5 r10 r12 r13 h f1
 clear l2 m1 m2
 refine(dh ⟨0,0,0,false,0⟩ _).mono ?_
 rintro e v2 ⟨rfl,g2⟩
 replace r4:=r4.keep g2 (fun h=>h)
 replace r5:=r5.keep g2 (fun h=>h)
 replace r10:=r10.keep g2 (fun h=>h)
 replace r12:=r12.keep g2 (fun h=>h)
 replace r13:=r13.keep g2 (fun h=>h)
 replace h:=h.keep g2 (fun h=>h) (fun h=>h)
 replace f1:=f1.trans g2
 clear g2
 obtain ⟨c4x0,c4x1,c4x2,c4x3⟩:=cl r13
 have d5:=r4.cell 0
 obtain ⟨c6x0,c6x1,c6x2,c6x3⟩:=cl r5
 go_wp2_with fail
 refine(hs _ h).mono ?_
 rintro e v3 ⟨rfl,g3⟩
 clear c4x0 c4x1 c4x2 c4x3 d5 c6x0 c6x1 c6x2 c6x3
 replace r4:=r4.keep g3 (fun h=>h)
 replace r5:=r5.keep g3 (fun h=>h)
 replace r10:=r10.keep g3 (fun h=>h)
 replace r12:=r12.keep g3 (fun h=>h)
 replace r13:=r13.keep g3 (fun h=>h)
 replace h:=h.keep g3 (fun h=>h) (fun h=>h)
 replace f1:=f1.trans g3
 clear g3
 clear h r4 r5 r12
 obtain ⟨c7x0,c7x1,c7x2,c7x3,c7x4⟩:=bl r10
 obtain ⟨z8x0,z8x1,z8x2,z8x3,z8x4⟩:=bz r10
 go_wp2_with fail
 clear c7x0 c7x1 c7x2 c7x3 c7x4 z8x0 z8x1 z8x2 z8x3 z8x4
 have l2:=l1.out
 replace r13:=r13.past5 (b':=w.heap.size+1+1) (by omega) (U κ z.ft.k) (U κ z.ft.s) (U κ z.ft.l) (β z.ft.wk) (U κ z.ft.p)
 replace r10:=r10.put5 (U κ z.ft.k) (U κ z.ft.s) (U κ z.ft.l) (β z.ft.wk) (U κ z.ft.p)
 replace f1:=f1.put5 (b:=w.heap.size+1+1) (Or.inl (by omega)) (U κ z.ft.k) (U κ z.ft.s) (U κ z.ft.l) (β z.ft.wk) (U κ z.ft.p)
 unfold put5 at r10 r13 f1
 clear l1 l2
 generalize hWW1:(((((v3.setCell ⟨w.heap.size+1+1,0,none⟩ (U κ z.ft.k)).setCell ⟨w.heap.size+1+1,1,none⟩ (U κ z.ft.s)).setCell ⟨w.heap.size+1+1,2,none⟩ (U κ z.ft.l)).setCell ⟨w.heap.size+1+1,3,none⟩ (β z.ft.wk)).setCell ⟨w.heap.size+1+1,4,none⟩ (U κ z.ft.p))=W1 at r10 r13 f1 ⊢
 clear hWW1
 obtain ⟨c9x0,c9x1,c9x2,c9x3,c9x4⟩:=bl r10
 obtain ⟨z10x0,z10x1,z10x2,z10x3,z10x4⟩:=bz r10
 obtain ⟨c11x0,c11x1,c11x2,c11x3⟩:=cl r13
 go_region
 go_wp2_with fail
 refine bodyPost_ret (gk rfl rfl (r10.put5 _ _ _ _ _).drew rfl) rfl ?_
 exact ⟨rfl,(f1.put5 (Or.inl (by omega)) _ _ _ _ _).drew⟩
theorem ml (w:World) (p bf nf:Nat) (bs:List UInt8) (vm sd first second page want:Int) (h:IsRam w p bf nf bs) :
  Calls pQ 158 #[π (some ⟨p,0,none⟩),.agg #[U κ vm,U κ sd,U κ first,U κ second],U κ page,U κ want] w fun e w'=>e=ρ (τ #[U κ (cg bs nf first second page want).fr,U κ (cg bs nf first second page want).ri,.agg #[U κ (cg bs nf first second page want).ft.k,U κ (cg bs nf first second page want).ft.s,U κ (cg bs nf first second page want).ft.l,β (cg bs nf first second page want).ft.wk,U κ (cg bs nf first second page want).ft.p]])∧Fr bg w w':=by
 cases hp:isP page with
 | false =>
  have e:cg bs nf first second page want=rv 3 0 0 false 0:=by unfold cg;rw[if_pos (Or.inl hp)]
  rw[e]
  exact nested_p w p vm sd first second page want hp
 | true =>
  cases hw:isR want with
  | false =>
   have e:cg bs nf first second page want=rv 3 0 0 false 0:=by unfold cg;rw[if_pos (Or.inr hw)]
   rw[e]
   exact nested_w w p vm sd first second page want hp hw
  | true =>
   have e0:¬ (isP page=false∨isR want=false):=by simp[hp,hw]
   unfold cg
   rw[if_neg e0]
   by_cases hf:first<0
   ·rw[if_pos hf]
    exact nested_plain w p bf nf bs vm sd first second page want h hp hw hf _ rfl
   ·rw[if_neg hf]
    by_cases h1:(ci bs nf second first page 0).ft.k=0
    ·rw[if_neg (by simpa using h1)]
     by_cases h2:(ci bs nf second (ci bs nf second first page 0).fr page 1).ft.k=0
     ·rw[if_neg (by simpa using h2)]
      by_cases h3:bits .and .i64 (ci bs nf second (ci bs nf second first page 0).fr page 1).ri want=0
      ·rw[if_pos h3]
       exact nested_no w p bf nf bs vm sd first second page want h hp hw hf h1 _ rfl h2 h3
      ·rw[if_neg h3]
       exact nested_fin w p bf nf bs vm sd first second page want h hp hw hf h1 _ rfl h2 h3 _ rfl
     ·rw[if_pos h2,(jf _ _ _ _ _ _ h2).1,(jf _ _ _ _ _ _ h2).2]
      exact nested_g1 w p bf nf bs vm sd first second page want h hp hw hf h1 _ rfl h2
    ·rw[if_pos h1,(jf _ _ _ _ _ _ h1).1,(jf _ _ _ _ _ _ h1).2]
     exact nested_g0 w p bf nf bs vm sd first second page want h hp hw hf _ rfl h1
end Go.Proofs.YtibhbjbpodlpiaaGreat
