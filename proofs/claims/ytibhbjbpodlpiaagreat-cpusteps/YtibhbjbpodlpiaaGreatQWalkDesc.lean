/-
  Contracts over the translation. No statement is proved here.
-/
import Derived.Shelf.Abstract
import Derived.WalkMore
import Derived.Test.YtibhbjbpodlpiaaGreatQWalkEnt
set_option maxRecDepth 100000
set_option maxHeartbeats 8000000
namespace Go.Proofs.YtibhbjbpodlpiaaGreat
open Go.RowKit
open Go.Value renaming int → U, bool → β, pointer → π, tuple → τ
open Go.IntKind renaming i64 → κ, u32 → μ
open Go.Obj renaming cells → ω
open Go.Ending renaming returned → ρ
open Go.Proofs.Tryz renaming prog → pQ
theorem IsRam.put4 {w:World} {p bf nf:Nat} {bs:List UInt8} (h:IsRam w p bf nf bs) {b:Nat} (h1:p≠b) (h2:bf≠b) (c0 c1 c2 c3:Value):IsRam (Go.Proofs.YtibhbjbpodlpiaaGreat.put4 w b c0 c1 c2 c3) p bf nf bs:=
 h.keep ((Fr.refl (at' b) w).put4 (Or.inr rfl) c0 c1 c2 c3) h1 h2
theorem IsRam.put5 {w:World} {p bf nf:Nat} {bs:List UInt8} (h:IsRam w p bf nf bs) {b:Nat} (h1:p≠b) (h2:bf≠b) (c0 c1 c2 c3 c4:Value):IsRam (Go.Proofs.YtibhbjbpodlpiaaGreat.put5 w b c0 c1 c2 c3 c4) p bf nf bs:=
 h.keep ((Fr.refl (at' b) w).put5 (Or.inr rfl) c0 c1 c2 c3 c4) h1 h2
def Lies (fn:Nat) (caps:Array Value) (L:Int→Res) (b:Nat) (w:World):Prop:=
 (∀ (args:Array Value) (w1:World),(callFunc fn args).run pQ w1=.ok (.enter fn args) w1) ∧
 ∀ (w1:World) (t:Int),Fr (at' b) w w1→Calls pQ fn (#[U κ t] ++ caps) w1 fun e w2=>e=ρ (τ #[U κ (L t).fr,.agg #[U κ (L t).ft.k,U κ (L t).ft.s,U κ (L t).ft.l,β (L t).ft.wk,U κ (L t).ft.p]])∧Fr bg w1 w2
theorem desc_a1 (w:World) (b p bf nf:Nat) (bs:List UInt8) (root st lv page:Int) (fn:Nat) (caps:Array Value) (L:Int→Res) (h:IsRam w p bf nf bs) (hS:gz w b p st lv page) (hbp:p≠b) (hbf:bf≠b) (hg:Lies fn caps L b w) (x:Res) (hx:L root=x) (hk:x.ft.k≠0) :
  Calls pQ 174 #[π (some ⟨b,0,none⟩),U κ root,.func (.func fn) #[] caps] w fun e w'=>e=ρ (τ #[.agg #[β false,β false,U κ 0,U κ 0],.agg #[U κ x.ft.k,U κ x.ft.s,U κ x.ft.l,β x.ft.wk,U κ x.ft.p]])∧Fr (at' b) w w'∧gz w' b p st 0 page:=by
 have l0:=fun w1 f=>hg.2 w1 root f
 rw[hx] at l0
 clear hx
 have t0:(x.ft.k == 0)=false:=by simp[hk]
 clear hk
 have hen:=hg.1
 have f1:=Fr.refl (at' b) w
 have rs:Row w b _ _:=hS
 have hb:=rs.lt
 have hp0:=h.head.lt
 have hb0:=h.row.lt
 clear hS
 have r6:=ba w #[β false,β false,U κ 0,U κ 0] 77
 replace rs:=rs.alloc (ω #[β false,β false,U κ 0,U κ 0] 77)
 replace h:=h.alloc (ω #[β false,β false,U κ 0,U κ 0] 77)
 replace f1:=f1.alloc (ω #[β false,β false,U κ 0,U κ 0] 77)
 have r7:=bq w (ω #[β false,β false,U κ 0,U κ 0] 77) #[U κ 0,U κ 0,U κ 0,β false,U κ 0] 50
 replace rs:=rs.alloc (ω #[U κ 0,U κ 0,U κ 0,β false,U κ 0] 50)
 replace r6:=r6.alloc (ω #[U κ 0,U κ 0,U κ 0,β false,U κ 0] 50)
 replace h:=h.alloc (ω #[U κ 0,U κ 0,U κ 0,β false,U κ 0] 50)
 replace f1:=f1.alloc (ω #[U κ 0,U κ 0,U κ 0,β false,U κ 0] 50)
 have r8:=dt w (ω #[β false,β false,U κ 0,U κ 0] 77) (ω #[U κ 0,U κ 0,U κ 0,β false,U κ 0] 50) #[β false,β false,U κ 0,U κ root] 77
 replace rs:=rs.alloc (ω #[β false,β false,U κ 0,U κ root] 77)
 replace r6:=r6.alloc (ω #[β false,β false,U κ 0,U κ root] 77)
 replace r7:=r7.alloc (ω #[β false,β false,U κ 0,U κ root] 77)
 replace h:=h.alloc (ω #[β false,β false,U κ 0,U κ root] 77)
 replace f1:=f1.alloc (ω #[β false,β false,U κ 0,U κ root] 77)
 obtain ⟨c0x0,c0x1,c0x2,c0x3⟩:=cl rs
 obtain ⟨z1x0,z1x1,z1x2,z1x3⟩:=db rs
 have hs2:=rs
 replace r6:=r6.setCell_other (p:=⟨b,2,none⟩) (show b≠_ by omega) (U κ 0)
 replace r7:=r7.setCell_other (p:=⟨b,2,none⟩) (show b≠_ by omega) (U κ 0)
 replace r8:=r8.setCell_other (p:=⟨b,2,none⟩) (show b≠_ by omega) (U κ 0)
 replace rs:Row _ b #[π (some ⟨p,0,none⟩),U κ st,U κ 0,U κ page] _:=rs.setCell 2 (U κ 0)
 replace h:=h.keep ((Fr.refl (at' b) _).setCell (p:=⟨b,2,none⟩) (Or.inr rfl) (U κ 0)) hbp hbf
 replace f1:=f1.setCell (p:=⟨b,2,none⟩) (Or.inr rfl) (U κ 0)
 obtain ⟨c2x0,c2x1,c2x2,c2x3⟩:=cl r8
 go_enter Tryz.func174,Tryz.ntmps174
 go_wp2_with fail
 go_step3
 go_wp2_with fail
 go_step3
 go_wp2_with fail
 refine wp_loop_rounds 1 ?_
 rw[rounds_succ]
 go_wp2_with fail
 refine(l0 _ f1).mono ?_
 rintro e v1 ⟨rfl,g1⟩
 clear c0x0 c0x1 c0x2 c0x3 z1x0 z1x1 z1x2 z1x3 hs2 c2x0 c2x1 c2x2 c2x3
 replace rs:=rs.keep g1 (fun h=>h)
 replace r6:=r6.keep g1 (fun h=>h)
 replace r7:=r7.keep g1 (fun h=>h)
 replace r8:=r8.keep g1 (fun h=>h)
 replace h:=h.keep g1 (fun h=>h) (fun h=>h)
 replace f1:=f1.trans (g1.mono (fun _ _ h=>h.elim))
 clear g1
 have l1:=r8.lt
 have r10:=ba v1 #[U κ x.ft.k,U κ x.ft.s,U κ x.ft.l,β x.ft.wk,U κ x.ft.p] 50
 replace rs:=rs.alloc (ω #[U κ x.ft.k,U κ x.ft.s,U κ x.ft.l,β x.ft.wk,U κ x.ft.p] 50)
 replace r6:=r6.alloc (ω #[U κ x.ft.k,U κ x.ft.s,U κ x.ft.l,β x.ft.wk,U κ x.ft.p] 50)
 replace r7:=r7.alloc (ω #[U κ x.ft.k,U κ x.ft.s,U κ x.ft.l,β x.ft.wk,U κ x.ft.p] 50)
 replace r8:=r8.alloc (ω #[U κ x.ft.k,U κ x.ft.s,U κ x.ft.l,β x.ft.wk,U κ x.ft.p] 50)
 replace h:=h.alloc (ω #[U κ x.ft.k,U κ x.ft.s,U κ x.ft.l,β x.ft.wk,U κ x.ft.p] 50)
 replace f1:=f1.alloc (ω #[U κ x.ft.k,U κ x.ft.s,U κ x.ft.l,β x.ft.wk,U κ x.ft.p] 50)
 obtain ⟨c3x0,c3x1,c3x2,c3x3,c3x4⟩:=bl r10
 go_wp2_with fail
 refine(dh x.ft _).mono ?_
 rintro e v2 ⟨rfl,g2⟩
 clear c3x0 c3x1 c3x2 c3x3 c3x4
 replace rs:=rs.keep g2 (fun h=>h)
 replace r6:=r6.keep g2 (fun h=>h)
 replace r7:=r7.keep g2 (fun h=>h)
 replace r8:=r8.keep g2 (fun h=>h)
 replace r10:=r10.keep g2 (fun h=>h)
 replace h:=h.keep g2 (fun h=>h) (fun h=>h)
 replace f1:=f1.trans (g2.mono (fun _ _ h=>h.elim))
 clear g2
 rw[t0]
 obtain ⟨c4x0,c4x1,c4x2,c4x3,c4x4⟩:=bl r10
 go_wp2_with fail
 refine(dh x.ft _).mono ?_
 rintro e v3 ⟨rfl,g3⟩
 clear c4x0 c4x1 c4x2 c4x3 c4x4
 replace rs:=rs.keep g3 (fun h=>h)
 replace r6:=r6.keep g3 (fun h=>h)
 replace r7:=r7.keep g3 (fun h=>h)
 replace r8:=r8.keep g3 (fun h=>h)
 replace r10:=r10.keep g3 (fun h=>h)
 replace h:=h.keep g3 (fun h=>h) (fun h=>h)
 replace f1:=f1.trans (g3.mono (fun _ _ h=>h.elim))
 clear g3
 rw[t0]
 obtain ⟨c5x0,c5x1,c5x2,c5x3,c5x4⟩:=bl r10
 obtain ⟨c6x0,c6x1,c6x2,c6x3⟩:=cl r6
 obtain ⟨z7x0,z7x1,z7x2,z7x3⟩:=db r6
 obtain ⟨c8x0,c8x1,c8x2,c8x3,c8x4⟩:=bl r7
 obtain ⟨z9x0,z9x1,z9x2,z9x3,z9x4⟩:=bz r7
 go_wp2_with fail
 go_region
 go_wp2_with fail
 try rw[Exit.noGoto_ret]
 refine bodyPost_ret (lk rfl rfl ((r6.put4 _ _ _ _).past5 (by omega) _ _ _ _ _).drew rfl rfl ((r7.past4 (by omega) _ _ _ _).put5 _ _ _ _ _).drew rfl) rfl ?_
 exact ⟨rfl,((f1.put4 (Or.inl (by omega)) _ _ _ _).put5 (Or.inl (by omega)) _ _ _ _ _).drew,((rs.past4 (by omega) _ _ _ _).past5 (by omega) _ _ _ _ _).drew⟩
theorem desc_a2 (w:World) (b p bf nf:Nat) (bs:List UInt8) (root st lv page:Int) (fn:Nat) (caps:Array Value) (L:Int→Res) (h:IsRam w p bf nf bs) (hS:gz w b p st lv page) (hbp:p≠b) (hbf:bf≠b) (hg:Lies fn caps L b w) (x:Res) (hx:L root=x) (hp:isP page=true) (hk:x.ft.k=0) (hj:jq bs nf x.fr page 0≠0) :
  Calls pQ 174 #[π (some ⟨b,0,none⟩),U κ root,.func (.func fn) #[] caps] w fun e w'=>e=ρ (τ #[.agg #[β false,β false,U κ 0,U κ 0],.agg #[U κ (jq bs nf x.fr page 0),U κ st,U κ 0,β false,U κ page]])∧Fr (at' b) w w'∧gz w' b p st 0 page:=by
 have l0:=fun w1 f=>hg.2 w1 root f
 rw[hx] at l0
 clear hx
 have t0:(x.ft.k == 0)=true:=by simp[hk]
 have t1:((jq bs nf x.fr page 0) == 0)=false:=by simp[hj]
 clear hk
 have hen:=hg.1
 have f1:=Fr.refl (at' b) w
 have rs:Row w b _ _:=hS
 have hb:=rs.lt
 have hp0:=h.head.lt
 have hb0:=h.row.lt
 clear hS
 have r6:=ba w #[β false,β false,U κ 0,U κ 0] 77
 replace rs:=rs.alloc (ω #[β false,β false,U κ 0,U κ 0] 77)
 replace h:=h.alloc (ω #[β false,β false,U κ 0,U κ 0] 77)
 replace f1:=f1.alloc (ω #[β false,β false,U κ 0,U κ 0] 77)
 have r7:=bq w (ω #[β false,β false,U κ 0,U κ 0] 77) #[U κ 0,U κ 0,U κ 0,β false,U κ 0] 50
 replace rs:=rs.alloc (ω #[U κ 0,U κ 0,U κ 0,β false,U κ 0] 50)
 replace r6:=r6.alloc (ω #[U κ 0,U κ 0,U κ 0,β false,U κ 0] 50)
 replace h:=h.alloc (ω #[U κ 0,U κ 0,U κ 0,β false,U κ 0] 50)
 replace f1:=f1.alloc (ω #[U κ 0,U κ 0,U κ 0,β false,U κ 0] 50)
 have r8:=dt w (ω #[β false,β false,U κ 0,U κ 0] 77) (ω #[U κ 0,U κ 0,U κ 0,β false,U κ 0] 50) #[β false,β false,U κ 0,U κ root] 77
 replace rs:=rs.alloc (ω #[β false,β false,U κ 0,U κ root] 77)
 replace r6:=r6.alloc (ω #[β false,β false,U κ 0,U κ root] 77)
 replace r7:=r7.alloc (ω #[β false,β false,U κ 0,U κ root] 77)
 replace h:=h.alloc (ω #[β false,β false,U κ 0,U κ root] 77)
 replace f1:=f1.alloc (ω #[β false,β false,U κ 0,U κ root] 77)
 obtain ⟨c0x0,c0x1,c0x2,c0x3⟩:=cl rs
 obtain ⟨z1x0,z1x1,z1x2,z1x3⟩:=db rs
 have hs2:=rs
 replace r6:=r6.setCell_other (p:=⟨b,2,none⟩) (show b≠_ by omega) (U κ 0)
 replace r7:=r7.setCell_other (p:=⟨b,2,none⟩) (show b≠_ by omega) (U κ 0)
 replace r8:=r8.setCell_other (p:=⟨b,2,none⟩) (show b≠_ by omega) (U κ 0)
 replace rs:Row _ b #[π (some ⟨p,0,none⟩),U κ st,U κ 0,U κ page] _:=rs.setCell 2 (U κ 0)
 replace h:=h.keep ((Fr.refl (at' b) _).setCell (p:=⟨b,2,none⟩) (Or.inr rfl) (U κ 0)) hbp hbf
 replace f1:=f1.setCell (p:=⟨b,2,none⟩) (Or.inr rfl) (U κ 0)
 obtain ⟨c2x0,c2x1,c2x2,c2x3⟩:=cl r8
 go_enter Tryz.func174,Tryz.ntmps174
 go_wp2_with fail
 go_step3
 go_wp2_with fail
 go_step3
 go_wp2_with fail
 refine wp_loop_rounds 1 ?_
 rw[rounds_succ]
 go_wp2_with fail
 refine(l0 _ f1).mono ?_
 rintro e v1 ⟨rfl,g1⟩
 clear c0x0 c0x1 c0x2 c0x3 z1x0 z1x1 z1x2 z1x3 hs2 c2x0 c2x1 c2x2 c2x3
 replace rs:=rs.keep g1 (fun h=>h)
 replace r6:=r6.keep g1 (fun h=>h)
 replace r7:=r7.keep g1 (fun h=>h)
 replace r8:=r8.keep g1 (fun h=>h)
 replace h:=h.keep g1 (fun h=>h) (fun h=>h)
 replace f1:=f1.trans (g1.mono (fun _ _ h=>h.elim))
 clear g1
 have l1:=r8.lt
 have r10:=ba v1 #[U κ x.ft.k,U κ x.ft.s,U κ x.ft.l,β x.ft.wk,U κ x.ft.p] 50
 replace rs:=rs.alloc (ω #[U κ x.ft.k,U κ x.ft.s,U κ x.ft.l,β x.ft.wk,U κ x.ft.p] 50)
 replace r6:=r6.alloc (ω #[U κ x.ft.k,U κ x.ft.s,U κ x.ft.l,β x.ft.wk,U κ x.ft.p] 50)
 replace r7:=r7.alloc (ω #[U κ x.ft.k,U κ x.ft.s,U κ x.ft.l,β x.ft.wk,U κ x.ft.p] 50)
 replace r8:=r8.alloc (ω #[U κ x.ft.k,U κ x.ft.s,U κ x.ft.l,β x.ft.wk,U κ x.ft.p] 50)
 replace h:=h.alloc (ω #[U κ x.ft.k,U κ x.ft.s,U κ x.ft.l,β x.ft.wk,U κ x.ft.p] 50)
 replace f1:=f1.alloc (ω #[U κ x.ft.k,U κ x.ft.s,U κ x.ft.l,β x.ft.wk,U κ x.ft.p] 50)
 obtain ⟨c3x0,c3x1,c3x2,c3x3,c3x4⟩:=bl r10
 go_wp2_with fail
 refine(dh x.ft _).mono ?_
 rintro e v2 ⟨rfl,g2⟩
 clear c3x0 c3x1 c3x2 c3x3 c3x4
 replace rs:=rs.keep g2 (fun h=>h)
 replace r6:=r6.keep g2 (fun h=>h)
 replace r7:=r7.keep g2 (fun h=>h)
 replace r8:=r8.keep g2 (fun h=>h)
 replace r10:=r10.keep g2 (fun h=>h)
 replace h:=h.keep g2 (fun h=>h) (fun h=>h)
 replace f1:=f1.trans (g2.mono (fun _ _ h=>h.elim))
 clear g2
 rw[t0]
 go_wp2_with fail
 refine(entry_bad _ _ _ _ _ _ _ _ _ _ h rs hp (Or.inl rfl) hj).mono ?_
 rintro e v3 ⟨rfl,g3⟩
 replace rs:=rs.keep g3 (fun h=>h)
 replace r6:=r6.keep g3 (fun h=>h)
 replace r7:=r7.keep g3 (fun h=>h)
 replace r8:=r8.keep g3 (fun h=>h)
 replace r10:=r10.keep g3 (fun h=>h)
 replace h:=h.keep g3 (fun h=>h) (fun h=>h)
 replace f1:=f1.trans (g3.mono (fun _ _ h=>h.elim))
 clear g3
 obtain ⟨c4x0,c4x1,c4x2,c4x3⟩:=cl r8
 obtain ⟨z5x0,z5x1,z5x2,z5x3⟩:=db r8
 obtain ⟨c6x0,c6x1,c6x2,c6x3,c6x4⟩:=bl r10
 obtain ⟨z7x0,z7x1,z7x2,z7x3,z7x4⟩:=bz r10
 have q8:=r8
 have q10:=r10
 replace rs:=rs.past4 (b':=w.heap.size+1+1) (by omega) (β false) (β false) (U κ 0) (U κ 0)
 replace r6:=r6.past4 (b':=w.heap.size+1+1) (by omega) (β false) (β false) (U κ 0) (U κ 0)
 replace r7:=r7.past4 (b':=w.heap.size+1+1) (by omega) (β false) (β false) (U κ 0) (U κ 0)
 replace r10:=r10.past4 (b':=w.heap.size+1+1) (by omega) (β false) (β false) (U κ 0) (U κ 0)
 replace r8:=r8.put4 (β false) (β false) (U κ 0) (U κ 0)
 replace h:=h.put4 (b:=w.heap.size+1+1) (by omega) (by omega) (β false) (β false) (U κ 0) (U κ 0)
 replace f1:=f1.put4 (b:=w.heap.size+1+1) (Or.inl (by omega)) (β false) (β false) (U κ 0) (U κ 0)
 unfold put4 at rs r6 r7 r8 r10 h f1
 replace rs:=rs.past5 (b':=v1.heap.size) (by omega) (U κ (jq bs nf x.fr page 0)) (U κ st) (U κ 0) (β false) (U κ page)
 replace r6:=r6.past5 (b':=v1.heap.size) (by omega) (U κ (jq bs nf x.fr page 0)) (U κ st) (U κ 0) (β false) (U κ page)
 replace r7:=r7.past5 (b':=v1.heap.size) (by omega) (U κ (jq bs nf x.fr page 0)) (U κ st) (U κ 0) (β false) (U κ page)
 replace r8:=r8.past5 (b':=v1.heap.size) (by omega) (U κ (jq bs nf x.fr page 0)) (U κ st) (U κ 0) (β false) (U κ page)
 replace r10:=r10.put5 (U κ (jq bs nf x.fr page 0)) (U κ st) (U κ 0) (β false) (U κ page)
 replace h:=h.put5 (b:=v1.heap.size) (by omega) (by omega) (U κ (jq bs nf x.fr page 0)) (U κ st) (U κ 0) (β false) (U κ page)
 replace f1:=f1.put5 (b:=v1.heap.size) (Or.inl (by omega)) (U κ (jq bs nf x.fr page 0)) (U κ st) (U κ 0) (β false) (U κ page)
 unfold put5 at rs r6 r7 r8 r10 h f1
 obtain ⟨c8x0,c8x1,c8x2,c8x3,c8x4⟩:=bl r10
 obtain ⟨c9x0,c9x1,c9x2,c9x3⟩:=cl r8
 go_wp2_with fail
 refine(dh ⟨(jq bs nf x.fr page 0),st,0,false,page⟩ _).mono ?_
 rintro e v4 ⟨rfl,g4⟩
 clear c4x0 c4x1 c4x2 c4x3 z5x0 z5x1 z5x2 z5x3 c6x0 c6x1 c6x2 c6x3 c6x4 z7x0 z7x1 z7x2 z7x3 z7x4 q8 q10 c8x0 c8x1 c8x2 c8x3 c8x4 c9x0 c9x1 c9x2 c9x3
 replace rs:=rs.keep g4 (fun h=>h)
 replace r6:=r6.keep g4 (fun h=>h)
 replace r7:=r7.keep g4 (fun h=>h)
 replace r8:=r8.keep g4 (fun h=>h)
 replace r10:=r10.keep g4 (fun h=>h)
 replace h:=h.keep g4 (fun h=>h) (fun h=>h)
 replace f1:=f1.trans (g4.mono (fun _ _ h=>h.elim))
 clear g4
 obtain ⟨c10x0,c10x1,c10x2,c10x3,c10x4⟩:=bl r10
 obtain ⟨c11x0,c11x1,c11x2,c11x3⟩:=cl r6
 obtain ⟨z12x0,z12x1,z12x2,z12x3⟩:=db r6
 obtain ⟨c13x0,c13x1,c13x2,c13x3,c13x4⟩:=bl r7
 obtain ⟨z14x0,z14x1,z14x2,z14x3,z14x4⟩:=bz r7
 go_wp2_with fail
 go_region
 go_wp2_with fail
 try rw[Exit.noGoto_ret]
 refine bodyPost_ret (lk rfl rfl ((r6.put4 _ _ _ _).past5 (by omega) _ _ _ _ _).drew rfl rfl ((r7.past4 (by omega) _ _ _ _).put5 _ _ _ _ _).drew rfl) rfl ?_
 exact ⟨rfl,((f1.put4 (Or.inl (by omega)) _ _ _ _).put5 (Or.inl (by omega)) _ _ _ _ _).drew,((rs.past4 (by omega) _ _ _ _).past5 (by omega) _ _ _ _ _).drew⟩
theorem desc_b1 (w:World) (b p bf nf:Nat) (bs:List UInt8) (root st lv page:Int) (fn:Nat) (caps:Array Value) (L:Int→Res) (h:IsRam w p bf nf bs) (hS:gz w b p st lv page) (hbp:p≠b) (hbf:bf≠b) (hg:Lies fn caps L b w) (x:Res) (hx:L root=x) (hp:isP page=true) (hk:x.ft.k=0) (hi:jq bs nf x.fr page 0=0) (y:Res) (hy:L (df (ew bs x.fr page 0))=y) (hj:y.ft.k≠0) :
  Calls pQ 174 #[π (some ⟨b,0,none⟩),U κ root,.func (.func fn) #[] caps] w fun e w'=>e=ρ (τ #[.agg #[β false,β false,U κ 0,U κ 0],.agg #[U κ y.ft.k,U κ y.ft.s,U κ y.ft.l,β y.ft.wk,U κ y.ft.p]])∧Fr (at' b) w w'∧gz w' b p st 1 page:=by
 have l0:=fun w1 f=>hg.2 w1 root f
 rw[hx] at l0
 clear hx
 have t0:(x.ft.k == 0)=true:=by simp[hk]
 clear hk
 have m0:=fun w1 f=>hg.2 w1 (df (ew bs x.fr page 0)) f
 rw[hy] at m0
 clear hy
 have t1:(y.ft.k == 0)=false:=by simp[hj]
 clear hj
 have hen:=hg.1
 have f1:=Fr.refl (at' b) w
 have rs:Row w b _ _:=hS
 have hb:=rs.lt
 have hp0:=h.head.lt
 have hb0:=h.row.lt
 clear hS
 have r6:=ba w #[β false,β false,U κ 0,U κ 0] 77
 replace rs:=rs.alloc (ω #[β false,β false,U κ 0,U κ 0] 77)
 replace h:=h.alloc (ω #[β false,β false,U κ 0,U κ 0] 77)
 replace f1:=f1.alloc (ω #[β false,β false,U κ 0,U κ 0] 77)
 have r7:=bq w (ω #[β false,β false,U κ 0,U κ 0] 77) #[U κ 0,U κ 0,U κ 0,β false,U κ 0] 50
 replace rs:=rs.alloc (ω #[U κ 0,U κ 0,U κ 0,β false,U κ 0] 50)
 replace r6:=r6.alloc (ω #[U κ 0,U κ 0,U κ 0,β false,U κ 0] 50)
 replace h:=h.alloc (ω #[U κ 0,U κ 0,U κ 0,β false,U κ 0] 50)
 replace f1:=f1.alloc (ω #[U κ 0,U κ 0,U κ 0,β false,U κ 0] 50)
 have r8:=dt w (ω #[β false,β false,U κ 0,U κ 0] 77) (ω #[U κ 0,U κ 0,U κ 0,β false,U κ 0] 50) #[β false,β false,U κ 0,U κ root] 77
 replace rs:=rs.alloc (ω #[β false,β false,U κ 0,U κ root] 77)
 replace r6:=r6.alloc (ω #[β false,β false,U κ 0,U κ root] 77)
 replace r7:=r7.alloc (ω #[β false,β false,U κ 0,U κ root] 77)
 replace h:=h.alloc (ω #[β false,β false,U κ 0,U κ root] 77)
 replace f1:=f1.alloc (ω #[β false,β false,U κ 0,U κ root] 77)
 obtain ⟨c0x0,c0x1,c0x2,c0x3⟩:=cl rs
 obtain ⟨z1x0,z1x1,z1x2,z1x3⟩:=db rs
 have hs2:=rs
 replace r6:=r6.setCell_other (p:=⟨b,2,none⟩) (show b≠_ by omega) (U κ 0)
 replace r7:=r7.setCell_other (p:=⟨b,2,none⟩) (show b≠_ by omega) (U κ 0)
 replace r8:=r8.setCell_other (p:=⟨b,2,none⟩) (show b≠_ by omega) (U κ 0)
 replace rs:Row _ b #[π (some ⟨p,0,none⟩),U κ st,U κ 0,U κ page] _:=rs.setCell 2 (U κ 0)
 replace h:=h.keep ((Fr.refl (at' b) _).setCell (p:=⟨b,2,none⟩) (Or.inr rfl) (U κ 0)) hbp hbf
 replace f1:=f1.setCell (p:=⟨b,2,none⟩) (Or.inr rfl) (U κ 0)
 obtain ⟨c2x0,c2x1,c2x2,c2x3⟩:=cl r8
 go_enter Tryz.func174,Tryz.ntmps174
 go_wp2_with fail
 go_step3
 go_wp2_with fail
 go_step3
 go_wp2_with fail
 refine wp_loop_rounds 2 ?_
 rw[rounds_succ]
 go_wp2_with fail
 refine(l0 _ f1).mono ?_
 rintro e v1 ⟨rfl,g1⟩
 clear c0x0 c0x1 c0x2 c0x3 z1x0 z1x1 z1x2 z1x3 hs2 c2x0 c2x1 c2x2 c2x3
 replace rs:=rs.keep g1 (fun h=>h)
 replace r6:=r6.keep g1 (fun h=>h)
 replace r7:=r7.keep g1 (fun h=>h)
 replace r8:=r8.keep g1 (fun h=>h)
 replace h:=h.keep g1 (fun h=>h) (fun h=>h)
 replace f1:=f1.trans (g1.mono (fun _ _ h=>h.elim))
 clear g1
 have l1:=r8.lt
 have r10:=ba v1 #[U κ x.ft.k,U κ x.ft.s,U κ x.ft.l,β x.ft.wk,U κ x.ft.p] 50
 replace rs:=rs.alloc (ω #[U κ x.ft.k,U κ x.ft.s,U κ x.ft.l,β x.ft.wk,U κ x.ft.p] 50)
 replace r6:=r6.alloc (ω #[U κ x.ft.k,U κ x.ft.s,U κ x.ft.l,β x.ft.wk,U κ x.ft.p] 50)
 replace r7:=r7.alloc (ω #[U κ x.ft.k,U κ x.ft.s,U κ x.ft.l,β x.ft.wk,U κ x.ft.p] 50)
 replace r8:=r8.alloc (ω #[U κ x.ft.k,U κ x.ft.s,U κ x.ft.l,β x.ft.wk,U κ x.ft.p] 50)
 replace h:=h.alloc (ω #[U κ x.ft.k,U κ x.ft.s,U κ x.ft.l,β x.ft.wk,U κ x.ft.p] 50)
 replace f1:=f1.alloc (ω #[U κ x.ft.k,U κ x.ft.s,U κ x.ft.l,β x.ft.wk,U κ x.ft.p] 50)
 obtain ⟨c3x0,c3x1,c3x2,c3x3,c3x4⟩:=bl r10
 go_wp2_with fail
 refine(dh x.ft _).mono ?_
 rintro e v2 ⟨rfl,g2⟩
 clear c3x0 c3x1 c3x2 c3x3 c3x4
 replace rs:=rs.keep g2 (fun h=>h)
 replace r6:=r6.keep g2 (fun h=>h)
 replace r7:=r7.keep g2 (fun h=>h)
 replace r8:=r8.keep g2 (fun h=>h)
 replace r10:=r10.keep g2 (fun h=>h)
 replace h:=h.keep g2 (fun h=>h) (fun h=>h)
 replace f1:=f1.trans (g2.mono (fun _ _ h=>h.elim))
 clear g2
 rw[t0]
 go_wp2_with fail
 refine(wh _ _ _ _ _ _ _ _ _ _ h rs hp (Or.inl rfl) hi).mono ?_
 rintro e v3 ⟨rfl,g3⟩
 replace rs:=rs.keep g3 (fun h=>h)
 replace r6:=r6.keep g3 (fun h=>h)
 replace r7:=r7.keep g3 (fun h=>h)
 replace r8:=r8.keep g3 (fun h=>h)
 replace r10:=r10.keep g3 (fun h=>h)
 replace h:=h.keep g3 (fun h=>h) (fun h=>h)
 replace f1:=f1.trans (g3.mono (fun _ _ h=>h.elim))
 clear g3
 obtain ⟨c4x0,c4x1,c4x2,c4x3⟩:=cl r8
 obtain ⟨z5x0,z5x1,z5x2,z5x3⟩:=db r8
 obtain ⟨c6x0,c6x1,c6x2,c6x3,c6x4⟩:=bl r10
 obtain ⟨z7x0,z7x1,z7x2,z7x3,z7x4⟩:=bz r10
 have q8:=r8
 have q10:=r10
 replace rs:=rs.past4 (b':=w.heap.size+1+1) (by omega) (β true) (β false) (U κ (dr (ew bs x.fr page 0))) (U κ (df (ew bs x.fr page 0)))
 replace r6:=r6.past4 (b':=w.heap.size+1+1) (by omega) (β true) (β false) (U κ (dr (ew bs x.fr page 0))) (U κ (df (ew bs x.fr page 0)))
 replace r7:=r7.past4 (b':=w.heap.size+1+1) (by omega) (β true) (β false) (U κ (dr (ew bs x.fr page 0))) (U κ (df (ew bs x.fr page 0)))
 replace r10:=r10.past4 (b':=w.heap.size+1+1) (by omega) (β true) (β false) (U κ (dr (ew bs x.fr page 0))) (U κ (df (ew bs x.fr page 0)))
 replace r8:=r8.put4 (β true) (β false) (U κ (dr (ew bs x.fr page 0))) (U κ (df (ew bs x.fr page 0)))
 replace h:=h.put4 (b:=w.heap.size+1+1) (by omega) (by omega) (β true) (β false) (U κ (dr (ew bs x.fr page 0))) (U κ (df (ew bs x.fr page 0)))
 replace f1:=f1.put4 (b:=w.heap.size+1+1) (Or.inl (by omega)) (β true) (β false) (U κ (dr (ew bs x.fr page 0))) (U κ (df (ew bs x.fr page 0)))
 unfold put4 at rs r6 r7 r8 r10 h f1
 replace rs:=rs.past5 (b':=v1.heap.size) (by omega) (U κ 0) (U κ 0) (U κ 0) (β false) (U κ 0)
 replace r6:=r6.past5 (b':=v1.heap.size) (by omega) (U κ 0) (U κ 0) (U κ 0) (β false) (U κ 0)
 replace r7:=r7.past5 (b':=v1.heap.size) (by omega) (U κ 0) (U κ 0) (U κ 0) (β false) (U κ 0)
 replace r8:=r8.past5 (b':=v1.heap.size) (by omega) (U κ 0) (U κ 0) (U κ 0) (β false) (U κ 0)
 replace r10:=r10.put5 (U κ 0) (U κ 0) (U κ 0) (β false) (U κ 0)
 replace h:=h.put5 (b:=v1.heap.size) (by omega) (by omega) (U κ 0) (U κ 0) (U κ 0) (β false) (U κ 0)
 replace f1:=f1.put5 (b:=v1.heap.size) (Or.inl (by omega)) (U κ 0) (U κ 0) (U κ 0) (β false) (U κ 0)
 unfold put5 at rs r6 r7 r8 r10 h f1
 obtain ⟨c8x0,c8x1,c8x2,c8x3,c8x4⟩:=bl r10
 obtain ⟨c9x0,c9x1,c9x2,c9x3⟩:=cl r8
 go_wp2_with fail
 refine(dh ⟨0,0,0,false,0⟩ _).mono ?_
 rintro e v4 ⟨rfl,g4⟩
 clear c4x0 c4x1 c4x2 c4x3 z5x0 z5x1 z5x2 z5x3 c6x0 c6x1 c6x2 c6x3 c6x4 z7x0 z7x1 z7x2 z7x3 z7x4 q8 q10 c8x0 c8x1 c8x2 c8x3 c8x4 c9x0 c9x1 c9x2 c9x3
 replace rs:=rs.keep g4 (fun h=>h)
 replace r6:=r6.keep g4 (fun h=>h)
 replace r7:=r7.keep g4 (fun h=>h)
 replace r8:=r8.keep g4 (fun h=>h)
 replace r10:=r10.keep g4 (fun h=>h)
 replace h:=h.keep g4 (fun h=>h) (fun h=>h)
 replace f1:=f1.trans (g4.mono (fun _ _ h=>h.elim))
 clear g4
 obtain ⟨c10x0,c10x1,c10x2,c10x3⟩:=cl r8
 obtain ⟨c11x0,c11x1,c11x2,c11x3⟩:=cl rs
 obtain ⟨z12x0,z12x1,z12x2,z12x3⟩:=db rs
 have hs3:=rs
 clear r10
 replace r6:=r6.setCell_other (p:=⟨b,2,none⟩) (show b≠_ by omega) (U κ 1)
 replace r7:=r7.setCell_other (p:=⟨b,2,none⟩) (show b≠_ by omega) (U κ 1)
 replace r8:=r8.setCell_other (p:=⟨b,2,none⟩) (show b≠_ by omega) (U κ 1)
 replace rs:Row _ b #[π (some ⟨p,0,none⟩),U κ st,U κ 1,U κ page] _:=rs.setCell 2 (U κ 1)
 replace h:=h.keep ((Fr.refl (at' b) _).setCell (p:=⟨b,2,none⟩) (Or.inr rfl) (U κ 1)) hbp hbf
 replace f1:=f1.setCell (p:=⟨b,2,none⟩) (Or.inr rfl) (U κ 1)
 obtain ⟨c13x0,c13x1,c13x2,c13x3⟩:=cl r8
 go_wp2_with fail
 rw[rounds_succ]
 go_wp2_with fail
 refine(m0 _ f1).mono ?_
 rintro e v5 ⟨rfl,g5⟩
 clear c10x0 c10x1 c10x2 c10x3 c11x0 c11x1 c11x2 c11x3 z12x0 z12x1 z12x2 z12x3 hs3 c13x0 c13x1 c13x2 c13x3
 replace rs:=rs.keep g5 (fun h=>h)
 replace r6:=r6.keep g5 (fun h=>h)
 replace r7:=r7.keep g5 (fun h=>h)
 replace r8:=r8.keep g5 (fun h=>h)
 replace h:=h.keep g5 (fun h=>h) (fun h=>h)
 replace f1:=f1.trans (g5.mono (fun _ _ h=>h.elim))
 clear g5
 have l5:=r8.lt
 have r10:=ba v5 #[U κ y.ft.k,U κ y.ft.s,U κ y.ft.l,β y.ft.wk,U κ y.ft.p] 50
 replace rs:=rs.alloc (ω #[U κ y.ft.k,U κ y.ft.s,U κ y.ft.l,β y.ft.wk,U κ y.ft.p] 50)
 replace r6:=r6.alloc (ω #[U κ y.ft.k,U κ y.ft.s,U κ y.ft.l,β y.ft.wk,U κ y.ft.p] 50)
 replace r7:=r7.alloc (ω #[U κ y.ft.k,U κ y.ft.s,U κ y.ft.l,β y.ft.wk,U κ y.ft.p] 50)
 replace r8:=r8.alloc (ω #[U κ y.ft.k,U κ y.ft.s,U κ y.ft.l,β y.ft.wk,U κ y.ft.p] 50)
 replace h:=h.alloc (ω #[U κ y.ft.k,U κ y.ft.s,U κ y.ft.l,β y.ft.wk,U κ y.ft.p] 50)
 replace f1:=f1.alloc (ω #[U κ y.ft.k,U κ y.ft.s,U κ y.ft.l,β y.ft.wk,U κ y.ft.p] 50)
 obtain ⟨c14x0,c14x1,c14x2,c14x3,c14x4⟩:=bl r10
 go_wp2_with fail
 refine(dh y.ft _).mono ?_
 rintro e v6 ⟨rfl,g6⟩
 clear c14x0 c14x1 c14x2 c14x3 c14x4
 replace rs:=rs.keep g6 (fun h=>h)
 replace r6:=r6.keep g6 (fun h=>h)
 replace r7:=r7.keep g6 (fun h=>h)
 replace r8:=r8.keep g6 (fun h=>h)
 replace r10:=r10.keep g6 (fun h=>h)
 replace h:=h.keep g6 (fun h=>h) (fun h=>h)
 replace f1:=f1.trans (g6.mono (fun _ _ h=>h.elim))
 clear g6
 rw[t1]
 obtain ⟨c15x0,c15x1,c15x2,c15x3,c15x4⟩:=bl r10
 go_wp2_with fail
 refine(dh y.ft _).mono ?_
 rintro e v7 ⟨rfl,g7⟩
 clear c15x0 c15x1 c15x2 c15x3 c15x4
 replace rs:=rs.keep g7 (fun h=>h)
 replace r6:=r6.keep g7 (fun h=>h)
 replace r7:=r7.keep g7 (fun h=>h)
 replace r8:=r8.keep g7 (fun h=>h)
 replace r10:=r10.keep g7 (fun h=>h)
 replace h:=h.keep g7 (fun h=>h) (fun h=>h)
 replace f1:=f1.trans (g7.mono (fun _ _ h=>h.elim))
 clear g7
 rw[t1]
 obtain ⟨c16x0,c16x1,c16x2,c16x3,c16x4⟩:=bl r10
 obtain ⟨c17x0,c17x1,c17x2,c17x3⟩:=cl r6
 obtain ⟨z18x0,z18x1,z18x2,z18x3⟩:=db r6
 obtain ⟨c19x0,c19x1,c19x2,c19x3,c19x4⟩:=bl r7
 obtain ⟨z20x0,z20x1,z20x2,z20x3,z20x4⟩:=bz r7
 go_wp2_with fail
 go_region
 go_wp2_with fail
 try rw[Exit.noGoto_ret]
 refine bodyPost_ret (lk rfl rfl ((r6.put4 _ _ _ _).past5 (by omega) _ _ _ _ _).drew rfl rfl ((r7.past4 (by omega) _ _ _ _).put5 _ _ _ _ _).drew rfl) rfl ?_
 exact ⟨rfl,((f1.put4 (Or.inl (by omega)) _ _ _ _).put5 (Or.inl (by omega)) _ _ _ _ _).drew,((rs.past4 (by omega) _ _ _ _).past5 (by omega) _ _ _ _ _).drew⟩
theorem desc_b2 (w:World) (b p bf nf:Nat) (bs:List UInt8) (root st lv page:Int) (fn:Nat) (caps:Array Value) (L:Int→Res) (h:IsRam w p bf nf bs) (hS:gz w b p st lv page) (hbp:p≠b) (hbf:bf≠b) (hg:Lies fn caps L b w) (x:Res) (hx:L root=x) (hp:isP page=true) (hk:x.ft.k=0) (hi:jq bs nf x.fr page 0=0) (y:Res) (hy:L (df (ew bs x.fr page 0))=y) (hj:y.ft.k=0) (hm:jq bs nf y.fr page 1≠0) :
  Calls pQ 174 #[π (some ⟨b,0,none⟩),U κ root,.func (.func fn) #[] caps] w fun e w'=>e=ρ (τ #[.agg #[β false,β false,U κ 0,U κ 0],.agg #[U κ (jq bs nf y.fr page 1),U κ st,U κ 1,β false,U κ page]])∧Fr (at' b) w w'∧gz w' b p st 1 page:=by
 have l0:=fun w1 f=>hg.2 w1 root f
 rw[hx] at l0
 clear hx
 have t0:(x.ft.k == 0)=true:=by simp[hk]
 clear hk
 have m0:=fun w1 f=>hg.2 w1 (df (ew bs x.fr page 0)) f
 rw[hy] at m0
 clear hy
 have t1:(y.ft.k == 0)=true:=by simp[hj]
 have t2:((jq bs nf y.fr page 1) == 0)=false:=by simp[hm]
 clear hj
 have hen:=hg.1
 have f1:=Fr.refl (at' b) w
 have rs:Row w b _ _:=hS
 have hb:=rs.lt
 have hp0:=h.head.lt
 have hb0:=h.row.lt
 clear hS
 have r6:=ba w #[β false,β false,U κ 0,U κ 0] 77
 replace rs:=rs.alloc (ω #[β false,β false,U κ 0,U κ 0] 77)
 replace h:=h.alloc (ω #[β false,β false,U κ 0,U κ 0] 77)
 replace f1:=f1.alloc (ω #[β false,β false,U κ 0,U κ 0] 77)
 have r7:=bq w (ω #[β false,β false,U κ 0,U κ 0] 77) #[U κ 0,U κ 0,U κ 0,β false,U κ 0] 50
 replace rs:=rs.alloc (ω #[U κ 0,U κ 0,U κ 0,β false,U κ 0] 50)
 replace r6:=r6.alloc (ω #[U κ 0,U κ 0,U κ 0,β false,U κ 0] 50)
 replace h:=h.alloc (ω #[U κ 0,U κ 0,U κ 0,β false,U κ 0] 50)
 replace f1:=f1.alloc (ω #[U κ 0,U κ 0,U κ 0,β false,U κ 0] 50)
 have r8:=dt w (ω #[β false,β false,U κ 0,U κ 0] 77) (ω #[U κ 0,U κ 0,U κ 0,β false,U κ 0] 50) #[β false,β false,U κ 0,U κ root] 77
 replace rs:=rs.alloc (ω #[β false,β false,U κ 0,U κ root] 77)
 replace r6:=r6.alloc (ω #[β false,β false,U κ 0,U κ root] 77)
 replace r7:=r7.alloc (ω #[β false,β false,U κ 0,U κ root] 77)
 replace h:=h.alloc (ω #[β false,β false,U κ 0,U κ root] 77)
 replace f1:=f1.alloc (ω #[β false,β false,U κ 0,U κ root] 77)
 obtain ⟨c0x0,c0x1,c0x2,c0x3⟩:=cl rs
 obtain ⟨z1x0,z1x1,z1x2,z1x3⟩:=db rs
 have hs2:=rs
 replace r6:=r6.setCell_other (p:=⟨b,2,none⟩) (show b≠_ by omega) (U κ 0)
 replace r7:=r7.setCell_other (p:=⟨b,2,none⟩) (show b≠_ by omega) (U κ 0)
 replace r8:=r8.setCell_other (p:=⟨b,2,none⟩) (show b≠_ by omega) (U κ 0)
 replace rs:Row _ b #[π (some ⟨p,0,none⟩),U κ st,U κ 0,U κ page] _:=rs.setCell 2 (U κ 0)
 replace h:=h.keep ((Fr.refl (at' b) _).setCell (p:=⟨b,2,none⟩) (Or.inr rfl) (U κ 0)) hbp hbf
 replace f1:=f1.setCell (p:=⟨b,2,none⟩) (Or.inr rfl) (U κ 0)
 obtain ⟨c2x0,c2x1,c2x2,c2x3⟩:=cl r8
 go_enter Tryz.func174,Tryz.ntmps174
 go_wp2_with fail
 go_step3
 go_wp2_with fail
 go_step3
 go_wp2_with fail
 refine wp_loop_rounds 2 ?_
 rw[rounds_succ]
 go_wp2_with fail
 refine(l0 _ f1).mono ?_
 rintro e v1 ⟨rfl,g1⟩
 clear c0x0 c0x1 c0x2 c0x3 z1x0 z1x1 z1x2 z1x3 hs2 c2x0 c2x1 c2x2 c2x3
 replace rs:=rs.keep g1 (fun h=>h)
 replace r6:=r6.keep g1 (fun h=>h)
 replace r7:=r7.keep g1 (fun h=>h)
 replace r8:=r8.keep g1 (fun h=>h)
 replace h:=h.keep g1 (fun h=>h) (fun h=>h)
 replace f1:=f1.trans (g1.mono (fun _ _ h=>h.elim))
 clear g1
 have l1:=r8.lt
 have r10:=ba v1 #[U κ x.ft.k,U κ x.ft.s,U κ x.ft.l,β x.ft.wk,U κ x.ft.p] 50
 replace rs:=rs.alloc (ω #[U κ x.ft.k,U κ x.ft.s,U κ x.ft.l,β x.ft.wk,U κ x.ft.p] 50)
 replace r6:=r6.alloc (ω #[U κ x.ft.k,U κ x.ft.s,U κ x.ft.l,β x.ft.wk,U κ x.ft.p] 50)
 replace r7:=r7.alloc (ω #[U κ x.ft.k,U κ x.ft.s,U κ x.ft.l,β x.ft.wk,U κ x.ft.p] 50)
 replace r8:=r8.alloc (ω #[U κ x.ft.k,U κ x.ft.s,U κ x.ft.l,β x.ft.wk,U κ x.ft.p] 50)
 replace h:=h.alloc (ω #[U κ x.ft.k,U κ x.ft.s,U κ x.ft.l,β x.ft.wk,U κ x.ft.p] 50)
 replace f1:=f1.alloc (ω #[U κ x.ft.k,U κ x.ft.s,U κ x.ft.l,β x.ft.wk,U κ x.ft.p] 50)
 obtain ⟨c3x0,c3x1,c3x2,c3x3,c3x4⟩:=bl r10
 go_wp2_with fail
 refine(dh x.ft _).mono ?_
 rintro e v2 ⟨rfl,g2⟩
 clear c3x0 c3x1 c3x2 c3x3 c3x4
 replace rs:=rs.keep g2 (fun h=>h)
 replace r6:=r6.keep g2 (fun h=>h)
 replace r7:=r7.keep g2 (fun h=>h)
 replace r8:=r8.keep g2 (fun h=>h)
 replace r10:=r10.keep g2 (fun h=>h)
 replace h:=h.keep g2 (fun h=>h) (fun h=>h)
 replace f1:=f1.trans (g2.mono (fun _ _ h=>h.elim))
 clear g2
 rw[t0]
 go_wp2_with fail
 refine(wh _ _ _ _ _ _ _ _ _ _ h rs hp (Or.inl rfl) hi).mono ?_
 rintro e v3 ⟨rfl,g3⟩
 replace rs:=rs.keep g3 (fun h=>h)
 replace r6:=r6.keep g3 (fun h=>h)
 replace r7:=r7.keep g3 (fun h=>h)
 replace r8:=r8.keep g3 (fun h=>h)
 replace r10:=r10.keep g3 (fun h=>h)
 replace h:=h.keep g3 (fun h=>h) (fun h=>h)
 replace f1:=f1.trans (g3.mono (fun _ _ h=>h.elim))
 clear g3
 obtain ⟨c4x0,c4x1,c4x2,c4x3⟩:=cl r8
 obtain ⟨z5x0,z5x1,z5x2,z5x3⟩:=db r8
 obtain ⟨c6x0,c6x1,c6x2,c6x3,c6x4⟩:=bl r10
 obtain ⟨z7x0,z7x1,z7x2,z7x3,z7x4⟩:=bz r10
 have q8:=r8
 have q10:=r10
 replace rs:=rs.past4 (b':=w.heap.size+1+1) (by omega) (β true) (β false) (U κ (dr (ew bs x.fr page 0))) (U κ (df (ew bs x.fr page 0)))
 replace r6:=r6.past4 (b':=w.heap.size+1+1) (by omega) (β true) (β false) (U κ (dr (ew bs x.fr page 0))) (U κ (df (ew bs x.fr page 0)))
 replace r7:=r7.past4 (b':=w.heap.size+1+1) (by omega) (β true) (β false) (U κ (dr (ew bs x.fr page 0))) (U κ (df (ew bs x.fr page 0)))
 replace r10:=r10.past4 (b':=w.heap.size+1+1) (by omega) (β true) (β false) (U κ (dr (ew bs x.fr page 0))) (U κ (df (ew bs x.fr page 0)))
 replace r8:=r8.put4 (β true) (β false) (U κ (dr (ew bs x.fr page 0))) (U κ (df (ew bs x.fr page 0)))
 replace h:=h.put4 (b:=w.heap.size+1+1) (by omega) (by omega) (β true) (β false) (U κ (dr (ew bs x.fr page 0))) (U κ (df (ew bs x.fr page 0)))
 replace f1:=f1.put4 (b:=w.heap.size+1+1) (Or.inl (by omega)) (β true) (β false) (U κ (dr (ew bs x.fr page 0))) (U κ (df (ew bs x.fr page 0)))
 unfold put4 at rs r6 r7 r8 r10 h f1
 replace rs:=rs.past5 (b':=v1.heap.size) (by omega) (U κ 0) (U κ 0) (U κ 0) (β false) (U κ 0)
 replace r6:=r6.past5 (b':=v1.heap.size) (by omega) (U κ 0) (U κ 0) (U κ 0) (β false) (U κ 0)
 replace r7:=r7.past5 (b':=v1.heap.size) (by omega) (U κ 0) (U κ 0) (U κ 0) (β false) (U κ 0)
 replace r8:=r8.past5 (b':=v1.heap.size) (by omega) (U κ 0) (U κ 0) (U κ 0) (β false) (U κ 0)
 replace r10:=r10.put5 (U κ 0) (U κ 0) (U κ 0) (β false) (U κ 0)
 replace h:=h.put5 (b:=v1.heap.size) (by omega) (by omega) (U κ 0) (U κ 0) (U κ 0) (β false) (U κ 0)
 replace f1:=f1.put5 (b:=v1.heap.size) (Or.inl (by omega)) (U κ 0) (U κ 0) (U κ 0) (β false) (U κ 0)
 unfold put5 at rs r6 r7 r8 r10 h f1
 obtain ⟨c8x0,c8x1,c8x2,c8x3,c8x4⟩:=bl r10
 obtain ⟨c9x0,c9x1,c9x2,c9x3⟩:=cl r8
 go_wp2_with fail
 refine(dh ⟨0,0,0,false,0⟩ _).mono ?_
 rintro e v4 ⟨rfl,g4⟩
 clear c4x0 c4x1 c4x2 c4x3 z5x0 z5x1 z5x2 z5x3 c6x0 c6x1 c6x2 c6x3 c6x4 z7x0 z7x1 z7x2 z7x3 z7x4 q8 q10 c8x0 c8x1 c8x2 c8x3 c8x4 c9x0 c9x1 c9x2 c9x3
 replace rs:=rs.keep g4 (fun h=>h)
 replace r6:=r6.keep g4 (fun h=>h)
 replace r7:=r7.keep g4 (fun h=>h)
 replace r8:=r8.keep g4 (fun h=>h)
 replace r10:=r10.keep g4 (fun h=>h)
 replace h:=h.keep g4 (fun h=>h) (fun h=>h)
 replace f1:=f1.trans (g4.mono (fun _ _ h=>h.elim))
 clear g4
 obtain ⟨c10x0,c10x1,c10x2,c10x3⟩:=cl r8
 obtain ⟨c11x0,c11x1,c11x2,c11x3⟩:=cl rs
 obtain ⟨z12x0,z12x1,z12x2,z12x3⟩:=db rs
 have hs3:=rs
 clear r10
 replace r6:=r6.setCell_other (p:=⟨b,2,none⟩) (show b≠_ by omega) (U κ 1)
 replace r7:=r7.setCell_other (p:=⟨b,2,none⟩) (show b≠_ by omega) (U κ 1)
 replace r8:=r8.setCell_other (p:=⟨b,2,none⟩) (show b≠_ by omega) (U κ 1)
 replace rs:Row _ b #[π (some ⟨p,0,none⟩),U κ st,U κ 1,U κ page] _:=rs.setCell 2 (U κ 1)
 replace h:=h.keep ((Fr.refl (at' b) _).setCell (p:=⟨b,2,none⟩) (Or.inr rfl) (U κ 1)) hbp hbf
 replace f1:=f1.setCell (p:=⟨b,2,none⟩) (Or.inr rfl) (U κ 1)
 obtain ⟨c13x0,c13x1,c13x2,c13x3⟩:=cl r8
 go_wp2_with fail
 rw[rounds_succ]
 go_wp2_with fail
 refine(m0 _ f1).mono ?_
 rintro e v5 ⟨rfl,g5⟩
 clear c10x0 c10x1 c10x2 c10x3 c11x0 c11x1 c11x2 c11x3 z12x0 z12x1 z12x2 z12x3 hs3 c13x0 c13x1 c13x2 c13x3
 replace rs:=rs.keep g5 (fun h=>h)
 replace r6:=r6.keep g5 (fun h=>h)
 replace r7:=r7.keep g5 (fun h=>h)
 replace r8:=r8.keep g5 (fun h=>h)
 replace h:=h.keep g5 (fun h=>h) (fun h=>h)
 replace f1:=f1.trans (g5.mono (fun _ _ h=>h.elim))
 clear g5
 have l5:=r8.lt
 have r10:=ba v5 #[U κ y.ft.k,U κ y.ft.s,U κ y.ft.l,β y.ft.wk,U κ y.ft.p] 50
 replace rs:=rs.alloc (ω #[U κ y.ft.k,U κ y.ft.s,U κ y.ft.l,β y.ft.wk,U κ y.ft.p] 50)
 replace r6:=r6.alloc (ω #[U κ y.ft.k,U κ y.ft.s,U κ y.ft.l,β y.ft.wk,U κ y.ft.p] 50)
 replace r7:=r7.alloc (ω #[U κ y.ft.k,U κ y.ft.s,U κ y.ft.l,β y.ft.wk,U κ y.ft.p] 50)
 replace r8:=r8.alloc (ω #[U κ y.ft.k,U κ y.ft.s,U κ y.ft.l,β y.ft.wk,U κ y.ft.p] 50)
 replace h:=h.alloc (ω #[U κ y.ft.k,U κ y.ft.s,U κ y.ft.l,β y.ft.wk,U κ y.ft.p] 50)
 replace f1:=f1.alloc (ω #[U κ y.ft.k,U κ y.ft.s,U κ y.ft.l,β y.ft.wk,U κ y.ft.p] 50)
 obtain ⟨c14x0,c14x1,c14x2,c14x3,c14x4⟩:=bl r10
 go_wp2_with fail
 refine(dh y.ft _).mono ?_
 rintro e v6 ⟨rfl,g6⟩
 clear c14x0 c14x1 c14x2 c14x3 c14x4
 replace rs:=rs.keep g6 (fun h=>h)
 replace r6:=r6.keep g6 (fun h=>h)
 replace r7:=r7.keep g6 (fun h=>h)
 replace r8:=r8.keep g6 (fun h=>h)
 replace r10:=r10.keep g6 (fun h=>h)
 replace h:=h.keep g6 (fun h=>h) (fun h=>h)
 replace f1:=f1.trans (g6.mono (fun _ _ h=>h.elim))
 clear g6
 rw[t1]
 go_wp2_with fail
 refine(entry_bad _ _ _ _ _ _ _ _ _ _ h rs hp (Or.inr rfl) hm).mono ?_
 rintro e v7 ⟨rfl,g7⟩
 replace rs:=rs.keep g7 (fun h=>h)
 replace r6:=r6.keep g7 (fun h=>h)
 replace r7:=r7.keep g7 (fun h=>h)
 replace r8:=r8.keep g7 (fun h=>h)
 replace r10:=r10.keep g7 (fun h=>h)
 replace h:=h.keep g7 (fun h=>h) (fun h=>h)
 replace f1:=f1.trans (g7.mono (fun _ _ h=>h.elim))
 clear g7
 obtain ⟨c15x0,c15x1,c15x2,c15x3⟩:=cl r8
 obtain ⟨z16x0,z16x1,z16x2,z16x3⟩:=db r8
 obtain ⟨c17x0,c17x1,c17x2,c17x3,c17x4⟩:=bl r10
 obtain ⟨z18x0,z18x1,z18x2,z18x3,z18x4⟩:=bz r10
 have q8:=r8
 have q10:=r10
 replace rs:=rs.past4 (b':=w.heap.size+1+1) (by omega) (β false) (β false) (U κ 0) (U κ 0)
 replace r6:=r6.past4 (b':=w.heap.size+1+1) (by omega) (β false) (β false) (U κ 0) (U κ 0)
 replace r7:=r7.past4 (b':=w.heap.size+1+1) (by omega) (β false) (β false) (U κ 0) (U κ 0)
 replace r10:=r10.past4 (b':=w.heap.size+1+1) (by omega) (β false) (β false) (U κ 0) (U κ 0)
 replace r8:=r8.put4 (β false) (β false) (U κ 0) (U κ 0)
 replace h:=h.put4 (b:=w.heap.size+1+1) (by omega) (by omega) (β false) (β false) (U κ 0) (U κ 0)
 replace f1:=f1.put4 (b:=w.heap.size+1+1) (Or.inl (by omega)) (β false) (β false) (U κ 0) (U κ 0)
 unfold put4 at rs r6 r7 r8 r10 h f1
 replace rs:=rs.past5 (b':=v5.heap.size) (by omega) (U κ (jq bs nf y.fr page 1)) (U κ st) (U κ 1) (β false) (U κ page)
 replace r6:=r6.past5 (b':=v5.heap.size) (by omega) (U κ (jq bs nf y.fr page 1)) (U κ st) (U κ 1) (β false) (U κ page)
 replace r7:=r7.past5 (b':=v5.heap.size) (by omega) (U κ (jq bs nf y.fr page 1)) (U κ st) (U κ 1) (β false) (U κ page)
 replace r8:=r8.past5 (b':=v5.heap.size) (by omega) (U κ (jq bs nf y.fr page 1)) (U κ st) (U κ 1) (β false) (U κ page)
 replace r10:=r10.put5 (U κ (jq bs nf y.fr page 1)) (U κ st) (U κ 1) (β false) (U κ page)
 replace h:=h.put5 (b:=v5.heap.size) (by omega) (by omega) (U κ (jq bs nf y.fr page 1)) (U κ st) (U κ 1) (β false) (U κ page)
 replace f1:=f1.put5 (b:=v5.heap.size) (Or.inl (by omega)) (U κ (jq bs nf y.fr page 1)) (U κ st) (U κ 1) (β false) (U κ page)
 unfold put5 at rs r6 r7 r8 r10 h f1
 obtain ⟨c19x0,c19x1,c19x2,c19x3,c19x4⟩:=bl r10
 obtain ⟨c20x0,c20x1,c20x2,c20x3⟩:=cl r8
 go_wp2_with fail
 refine(dh ⟨(jq bs nf y.fr page 1),st,1,false,page⟩ _).mono ?_
 rintro e v8 ⟨rfl,g8⟩
 clear c15x0 c15x1 c15x2 c15x3 z16x0 z16x1 z16x2 z16x3 c17x0 c17x1 c17x2 c17x3 c17x4 z18x0 z18x1 z18x2 z18x3 z18x4 q8 q10 c19x0 c19x1 c19x2 c19x3 c19x4 c20x0 c20x1 c20x2 c20x3
 replace rs:=rs.keep g8 (fun h=>h)
 replace r6:=r6.keep g8 (fun h=>h)
 replace r7:=r7.keep g8 (fun h=>h)
 replace r8:=r8.keep g8 (fun h=>h)
 replace r10:=r10.keep g8 (fun h=>h)
 replace h:=h.keep g8 (fun h=>h) (fun h=>h)
 replace f1:=f1.trans (g8.mono (fun _ _ h=>h.elim))
 clear g8
 obtain ⟨c21x0,c21x1,c21x2,c21x3,c21x4⟩:=bl r10
 obtain ⟨c22x0,c22x1,c22x2,c22x3⟩:=cl r6
 obtain ⟨z23x0,z23x1,z23x2,z23x3⟩:=db r6
 obtain ⟨c24x0,c24x1,c24x2,c24x3,c24x4⟩:=bl r7
 obtain ⟨z25x0,z25x1,z25x2,z25x3,z25x4⟩:=bz r7
 go_wp2_with fail
 go_region
 go_wp2_with fail
 try rw[Exit.noGoto_ret]
 refine bodyPost_ret (lk rfl rfl ((r6.put4 _ _ _ _).past5 (by omega) _ _ _ _ _).drew rfl rfl ((r7.past4 (by omega) _ _ _ _).put5 _ _ _ _ _).drew rfl) rfl ?_
 exact ⟨rfl,((f1.put4 (Or.inl (by omega)) _ _ _ _).put5 (Or.inl (by omega)) _ _ _ _ _).drew,((rs.past4 (by omega) _ _ _ _).past5 (by omega) _ _ _ _ _).drew⟩
theorem desc_c (w:World) (b p bf nf:Nat) (bs:List UInt8) (root st lv page:Int) (fn:Nat) (caps:Array Value) (L:Int→Res) (h:IsRam w p bf nf bs) (hS:gz w b p st lv page) (hbp:p≠b) (hbf:bf≠b) (hg:Lies fn caps L b w) (x:Res) (hx:L root=x) (hp:isP page=true) (hk:x.ft.k=0) (hi:jq bs nf x.fr page 0=0) (y:Res) (hy:L (df (ew bs x.fr page 0))=y) (hj:y.ft.k=0) (hm:jq bs nf y.fr page 1=0) :
  Calls pQ 174 #[π (some ⟨b,0,none⟩),U κ root,.func (.func fn) #[] caps] w fun e w'=>e=ρ (τ #[.agg #[β true,β true,U κ (dr (ew bs y.fr page 1)),U κ (df (ew bs y.fr page 1))],.agg #[U κ 0,U κ 0,U κ 0,β false,U κ 0]])∧Fr (at' b) w w'∧gz w' b p st 1 page:=by
 have l0:=fun w1 f=>hg.2 w1 root f
 rw[hx] at l0
 clear hx
 have t0:(x.ft.k == 0)=true:=by simp[hk]
 clear hk
 have m0:=fun w1 f=>hg.2 w1 (df (ew bs x.fr page 0)) f
 rw[hy] at m0
 clear hy
 have t1:(y.ft.k == 0)=true:=by simp[hj]
 clear hj
 have hen:=hg.1
 have f1:=Fr.refl (at' b) w
 have rs:Row w b _ _:=hS
 have hb:=rs.lt
 have hp0:=h.head.lt
 have hb0:=h.row.lt
 clear hS
 have r6:=ba w #[β false,β false,U κ 0,U κ 0] 77
 replace rs:=rs.alloc (ω #[β false,β false,U κ 0,U κ 0] 77)
 replace h:=h.alloc (ω #[β false,β false,U κ 0,U κ 0] 77)
 replace f1:=f1.alloc (ω #[β false,β false,U κ 0,U κ 0] 77)
 have r7:=bq w (ω #[β false,β false,U κ 0,U κ 0] 77) #[U κ 0,U κ 0,U κ 0,β false,U κ 0] 50
 replace rs:=rs.alloc (ω #[U κ 0,U κ 0,U κ 0,β false,U κ 0] 50)
 replace r6:=r6.alloc (ω #[U κ 0,U κ 0,U κ 0,β false,U κ 0] 50)
 replace h:=h.alloc (ω #[U κ 0,U κ 0,U κ 0,β false,U κ 0] 50)
 replace f1:=f1.alloc (ω #[U κ 0,U κ 0,U κ 0,β false,U κ 0] 50)
 have r8:=dt w (ω #[β false,β false,U κ 0,U κ 0] 77) (ω #[U κ 0,U κ 0,U κ 0,β false,U κ 0] 50) #[β false,β false,U κ 0,U κ root] 77
 replace rs:=rs.alloc (ω #[β false,β false,U κ 0,U κ root] 77)
 replace r6:=r6.alloc (ω #[β false,β false,U κ 0,U κ root] 77)
 replace r7:=r7.alloc (ω #[β false,β false,U κ 0,U κ root] 77)
 replace h:=h.alloc (ω #[β false,β false,U κ 0,U κ root] 77)
 replace f1:=f1.alloc (ω #[β false,β false,U κ 0,U κ root] 77)
 obtain ⟨c0x0,c0x1,c0x2,c0x3⟩:=cl rs
 obtain ⟨z1x0,z1x1,z1x2,z1x3⟩:=db rs
 have hs2:=rs
 replace r6:=r6.setCell_other (p:=⟨b,2,none⟩) (show b≠_ by omega) (U κ 0)
 replace r7:=r7.setCell_other (p:=⟨b,2,none⟩) (show b≠_ by omega) (U κ 0)
 replace r8:=r8.setCell_other (p:=⟨b,2,none⟩) (show b≠_ by omega) (U κ 0)
 replace rs:Row _ b #[π (some ⟨p,0,none⟩),U κ st,U κ 0,U κ page] _:=rs.setCell 2 (U κ 0)
 replace h:=h.keep ((Fr.refl (at' b) _).setCell (p:=⟨b,2,none⟩) (Or.inr rfl) (U κ 0)) hbp hbf
 replace f1:=f1.setCell (p:=⟨b,2,none⟩) (Or.inr rfl) (U κ 0)
 obtain ⟨c2x0,c2x1,c2x2,c2x3⟩:=cl r8
 go_enter Tryz.func174,Tryz.ntmps174
 go_wp2_with fail
 go_step3
 go_wp2_with fail
 go_step3
 go_wp2_with fail
 refine wp_loop_rounds 2 ?_
 rw[rounds_succ]
 go_wp2_with fail
 refine(l0 _ f1).mono ?_
 rintro e v1 ⟨rfl,g1⟩
 clear c0x0 c0x1 c0x2 c0x3 z1x0 z1x1 z1x2 z1x3 hs2 c2x0 c2x1 c2x2 c2x3
 replace rs:=rs.keep g1 (fun h=>h)
 replace r6:=r6.keep g1 (fun h=>h)
 replace r7:=r7.keep g1 (fun h=>h)
 replace r8:=r8.keep g1 (fun h=>h)
 replace h:=h.keep g1 (fun h=>h) (fun h=>h)
 replace f1:=f1.trans (g1.mono (fun _ _ h=>h.elim))
 clear g1
 have l1:=r8.lt
 have r10:=ba v1 #[U κ x.ft.k,U κ x.ft.s,U κ x.ft.l,β x.ft.wk,U κ x.ft.p] 50
 replace rs:=rs.alloc (ω #[U κ x.ft.k,U κ x.ft.s,U κ x.ft.l,β x.ft.wk,U κ x.ft.p] 50)
 replace r6:=r6.alloc (ω #[U κ x.ft.k,U κ x.ft.s,U κ x.ft.l,β x.ft.wk,U κ x.ft.p] 50)
 replace r7:=r7.alloc (ω #[U κ x.ft.k,U κ x.ft.s,U κ x.ft.l,β x.ft.wk,U κ x.ft.p] 50)
 replace r8:=r8.alloc (ω #[U κ x.ft.k,U κ x.ft.s,U κ x.ft.l,β x.ft.wk,U κ x.ft.p] 50)
 replace h:=h.alloc (ω #[U κ x.ft.k,U κ x.ft.s,U κ x.ft.l,β x.ft.wk,U κ x.ft.p] 50)
 replace f1:=f1.alloc (ω #[U κ x.ft.k,U κ x.ft.s,U κ x.ft.l,β x.ft.wk,U κ x.ft.p] 50)
 obtain ⟨c3x0,c3x1,c3x2,c3x3,c3x4⟩:=bl r10
 go_wp2_with fail
 refine(dh x.ft _).mono ?_
 rintro e v2 ⟨rfl,g2⟩
 clear c3x0 c3x1 c3x2 c3x3 c3x4
 replace rs:=rs.keep g2 (fun h=>h)
 replace r6:=r6.keep g2 (fun h=>h)
 replace r7:=r7.keep g2 (fun h=>h)
 replace r8:=r8.keep g2 (fun h=>h)
 replace r10:=r10.keep g2 (fun h=>h)
 replace h:=h.keep g2 (fun h=>h) (fun h=>h)
 replace f1:=f1.trans (g2.mono (fun _ _ h=>h.elim))
 clear g2
 rw[t0]
 go_wp2_with fail
 refine(wh _ _ _ _ _ _ _ _ _ _ h rs hp (Or.inl rfl) hi).mono ?_
 rintro e v3 ⟨rfl,g3⟩
 replace rs:=rs.keep g3 (fun h=>h)
 replace r6:=r6.keep g3 (fun h=>h)
 replace r7:=r7.keep g3 (fun h=>h)
 replace r8:=r8.keep g3 (fun h=>h)
 replace r10:=r10.keep g3 (fun h=>h)
 replace h:=h.keep g3 (fun h=>h) (fun h=>h)
 replace f1:=f1.trans (g3.mono (fun _ _ h=>h.elim))
 clear g3
 obtain ⟨c4x0,c4x1,c4x2,c4x3⟩:=cl r8
 obtain ⟨z5x0,z5x1,z5x2,z5x3⟩:=db r8
 obtain ⟨c6x0,c6x1,c6x2,c6x3,c6x4⟩:=bl r10
 obtain ⟨z7x0,z7x1,z7x2,z7x3,z7x4⟩:=bz r10
 have q8:=r8
 have q10:=r10
 replace rs:=rs.past4 (b':=w.heap.size+1+1) (by omega) (β true) (β false) (U κ (dr (ew bs x.fr page 0))) (U κ (df (ew bs x.fr page 0)))
 replace r6:=r6.past4 (b':=w.heap.size+1+1) (by omega) (β true) (β false) (U κ (dr (ew bs x.fr page 0))) (U κ (df (ew bs x.fr page 0)))
 replace r7:=r7.past4 (b':=w.heap.size+1+1) (by omega) (β true) (β false) (U κ (dr (ew bs x.fr page 0))) (U κ (df (ew bs x.fr page 0)))
 replace r10:=r10.past4 (b':=w.heap.size+1+1) (by omega) (β true) (β false) (U κ (dr (ew bs x.fr page 0))) (U κ (df (ew bs x.fr page 0)))
 replace r8:=r8.put4 (β true) (β false) (U κ (dr (ew bs x.fr page 0))) (U κ (df (ew bs x.fr page 0)))
 replace h:=h.put4 (b:=w.heap.size+1+1) (by omega) (by omega) (β true) (β false) (U κ (dr (ew bs x.fr page 0))) (U κ (df (ew bs x.fr page 0)))
 replace f1:=f1.put4 (b:=w.heap.size+1+1) (Or.inl (by omega)) (β true) (β false) (U κ (dr (ew bs x.fr page 0))) (U κ (df (ew bs x.fr page 0)))
 unfold put4 at rs r6 r7 r8 r10 h f1
 replace rs:=rs.past5 (b':=v1.heap.size) (by omega) (U κ 0) (U κ 0) (U κ 0) (β false) (U κ 0)
 replace r6:=r6.past5 (b':=v1.heap.size) (by omega) (U κ 0) (U κ 0) (U κ 0) (β false) (U κ 0)
 replace r7:=r7.past5 (b':=v1.heap.size) (by omega) (U κ 0) (U κ 0) (U κ 0) (β false) (U κ 0)
 replace r8:=r8.past5 (b':=v1.heap.size) (by omega) (U κ 0) (U κ 0) (U κ 0) (β false) (U κ 0)
 replace r10:=r10.put5 (U κ 0) (U κ 0) (U κ 0) (β false) (U κ 0)
 replace h:=h.put5 (b:=v1.heap.size) (by omega) (by omega) (U κ 0) (U κ 0) (U κ 0) (β false) (U κ 0)
 replace f1:=f1.put5 (b:=v1.heap.size) (Or.inl (by omega)) (U κ 0) (U κ 0) (U κ 0) (β false) (U κ 0)
 unfold put5 at rs r6 r7 r8 r10 h f1
 obtain ⟨c8x0,c8x1,c8x2,c8x3,c8x4⟩:=bl r10
 obtain ⟨c9x0,c9x1,c9x2,c9x3⟩:=cl r8
 go_wp2_with fail
 refine(dh ⟨0,0,0,false,0⟩ _).mono ?_
 rintro e v4 ⟨rfl,g4⟩
 clear c4x0 c4x1 c4x2 c4x3 z5x0 z5x1 z5x2 z5x3 c6x0 c6x1 c6x2 c6x3 c6x4 z7x0 z7x1 z7x2 z7x3 z7x4 q8 q10 c8x0 c8x1 c8x2 c8x3 c8x4 c9x0 c9x1 c9x2 c9x3
 replace rs:=rs.keep g4 (fun h=>h)
 replace r6:=r6.keep g4 (fun h=>h)
 replace r7:=r7.keep g4 (fun h=>h)
 replace r8:=r8.keep g4 (fun h=>h)
 replace r10:=r10.keep g4 (fun h=>h)
 replace h:=h.keep g4 (fun h=>h) (fun h=>h)
 replace f1:=f1.trans (g4.mono (fun _ _ h=>h.elim))
 clear g4
 obtain ⟨c10x0,c10x1,c10x2,c10x3⟩:=cl r8
 obtain ⟨c11x0,c11x1,c11x2,c11x3⟩:=cl rs
 obtain ⟨z12x0,z12x1,z12x2,z12x3⟩:=db rs
 have hs3:=rs
 clear r10
 replace r6:=r6.setCell_other (p:=⟨b,2,none⟩) (show b≠_ by omega) (U κ 1)
 replace r7:=r7.setCell_other (p:=⟨b,2,none⟩) (show b≠_ by omega) (U κ 1)
 replace r8:=r8.setCell_other (p:=⟨b,2,none⟩) (show b≠_ by omega) (U κ 1)
 replace rs:Row _ b #[π (some ⟨p,0,none⟩),U κ st,U κ 1,U κ page] _:=rs.setCell 2 (U κ 1)
 replace h:=h.keep ((Fr.refl (at' b) _).setCell (p:=⟨b,2,none⟩) (Or.inr rfl) (U κ 1)) hbp hbf
 replace f1:=f1.setCell (p:=⟨b,2,none⟩) (Or.inr rfl) (U κ 1)
 obtain ⟨c13x0,c13x1,c13x2,c13x3⟩:=cl r8
 go_wp2_with fail
 rw[rounds_succ]
 go_wp2_with fail
 refine(m0 _ f1).mono ?_
 rintro e v5 ⟨rfl,g5⟩
 clear c10x0 c10x1 c10x2 c10x3 c11x0 c11x1 c11x2 c11x3 z12x0 z12x1 z12x2 z12x3 hs3 c13x0 c13x1 c13x2 c13x3
 replace rs:=rs.keep g5 (fun h=>h)
 replace r6:=r6.keep g5 (fun h=>h)
 replace r7:=r7.keep g5 (fun h=>h)
 replace r8:=r8.keep g5 (fun h=>h)
 replace h:=h.keep g5 (fun h=>h) (fun h=>h)
 replace f1:=f1.trans (g5.mono (fun _ _ h=>h.elim))
 clear g5
 have l5:=r8.lt
 have r10:=ba v5 #[U κ y.ft.k,U κ y.ft.s,U κ y.ft.l,β y.ft.wk,U κ y.ft.p] 50
 replace rs:=rs.alloc (ω #[U κ y.ft.k,U κ y.ft.s,U κ y.ft.l,β y.ft.wk,U κ y.ft.p] 50)
 replace r6:=r6.alloc (ω #[U κ y.ft.k,U κ y.ft.s,U κ y.ft.l,β y.ft.wk,U κ y.ft.p] 50)
 replace r7:=r7.alloc (ω #[U κ y.ft.k,U κ y.ft.s,U κ y.ft.l,β y.ft.wk,U κ y.ft.p] 50)
 replace r8:=r8.alloc (ω #[U κ y.ft.k,U κ y.ft.s,U κ y.ft.l,β y.ft.wk,U κ y.ft.p] 50)
 replace h:=h.alloc (ω #[U κ y.ft.k,U κ y.ft.s,U κ y.ft.l,β y.ft.wk,U κ y.ft.p] 50)
 replace f1:=f1.alloc (ω #[U κ y.ft.k,U κ y.ft.s,U κ y.ft.l,β y.ft.wk,U κ y.ft.p] 50)
 obtain ⟨c14x0,c14x1,c14x2,c14x3,c14x4⟩:=bl r10
 go_wp2_with fail
 refine(dh y.ft _).mono ?_
 rintro e v6 ⟨rfl,g6⟩
 clear c14x0 c14x1 c14x2 c14x3 c14x4
 replace rs:=rs.keep g6 (fun h=>h)
 replace r6:=r6.keep g6 (fun h=>h)
 replace r7:=r7.keep g6 (fun h=>h)
 replace r8:=r8.keep g6 (fun h=>h)
 replace r10:=r10.keep g6 (fun h=>h)
 replace h:=h.keep g6 (fun h=>h) (fun h=>h)
 replace f1:=f1.trans (g6.mono (fun _ _ h=>h.elim))
 clear g6
 rw[t1]
 go_wp2_with fail
 refine(wh _ _ _ _ _ _ _ _ _ _ h rs hp (Or.inr rfl) hm).mono ?_
 rintro e v7 ⟨rfl,g7⟩
 replace rs:=rs.keep g7 (fun h=>h)
 replace r6:=r6.keep g7 (fun h=>h)
 replace r7:=r7.keep g7 (fun h=>h)
 replace r8:=r8.keep g7 (fun h=>h)
 replace r10:=r10.keep g7 (fun h=>h)
 replace h:=h.keep g7 (fun h=>h) (fun h=>h)
 replace f1:=f1.trans (g7.mono (fun _ _ h=>h.elim))
 clear g7
 obtain ⟨c15x0,c15x1,c15x2,c15x3⟩:=cl r8
 obtain ⟨z16x0,z16x1,z16x2,z16x3⟩:=db r8
 obtain ⟨c17x0,c17x1,c17x2,c17x3,c17x4⟩:=bl r10
 obtain ⟨z18x0,z18x1,z18x2,z18x3,z18x4⟩:=bz r10
 have q8:=r8
 have q10:=r10
 replace rs:=rs.past4 (b':=w.heap.size+1+1) (by omega) (β true) (β true) (U κ (dr (ew bs y.fr page 1))) (U κ (df (ew bs y.fr page 1)))
 replace r6:=r6.past4 (b':=w.heap.size+1+1) (by omega) (β true) (β true) (U κ (dr (ew bs y.fr page 1))) (U κ (df (ew bs y.fr page 1)))
 replace r7:=r7.past4 (b':=w.heap.size+1+1) (by omega) (β true) (β true) (U κ (dr (ew bs y.fr page 1))) (U κ (df (ew bs y.fr page 1)))
 replace r10:=r10.past4 (b':=w.heap.size+1+1) (by omega) (β true) (β true) (U κ (dr (ew bs y.fr page 1))) (U κ (df (ew bs y.fr page 1)))
 replace r8:=r8.put4 (β true) (β true) (U κ (dr (ew bs y.fr page 1))) (U κ (df (ew bs y.fr page 1)))
 replace h:=h.put4 (b:=w.heap.size+1+1) (by omega) (by omega) (β true) (β true) (U κ (dr (ew bs y.fr page 1))) (U κ (df (ew bs y.fr page 1)))
 replace f1:=f1.put4 (b:=w.heap.size+1+1) (Or.inl (by omega)) (β true) (β true) (U κ (dr (ew bs y.fr page 1))) (U κ (df (ew bs y.fr page 1)))
 unfold put4 at rs r6 r7 r8 r10 h f1
 replace rs:=rs.past5 (b':=v5.heap.size) (by omega) (U κ 0) (U κ 0) (U κ 0) (β false) (U κ 0)
 replace r6:=r6.past5 (b':=v5.heap.size) (by omega) (U κ 0) (U κ 0) (U κ 0) (β false) (U κ 0)
 replace r7:=r7.past5 (b':=v5.heap.size) (by omega) (U κ 0) (U κ 0) (U κ 0) (β false) (U κ 0)
 replace r8:=r8.past5 (b':=v5.heap.size) (by omega) (U κ 0) (U κ 0) (U κ 0) (β false) (U κ 0)
 replace r10:=r10.put5 (U κ 0) (U κ 0) (U κ 0) (β false) (U κ 0)
 replace h:=h.put5 (b:=v5.heap.size) (by omega) (by omega) (U κ 0) (U κ 0) (U κ 0) (β false) (U κ 0)
 replace f1:=f1.put5 (b:=v5.heap.size) (Or.inl (by omega)) (U κ 0) (U κ 0) (U κ 0) (β false) (U κ 0)
 unfold put5 at rs r6 r7 r8 r10 h f1
 obtain ⟨c19x0,c19x1,c19x2,c19x3,c19x4⟩:=bl r10
 obtain ⟨c20x0,c20x1,c20x2,c20x3⟩:=cl r8
 go_wp2_with fail
 refine(dh ⟨0,0,0,false,0⟩ _).mono ?_
 rintro e v8 ⟨rfl,g8⟩
 clear c15x0 c15x1 c15x2 c15x3 z16x0 z16x1 z16x2 z16x3 c17x0 c17x1 c17x2 c17x3 c17x4 z18x0 z18x1 z18x2 z18x3 z18x4 q8 q10 c19x0 c19x1 c19x2 c19x3 c19x4 c20x0 c20x1 c20x2 c20x3
 replace rs:=rs.keep g8 (fun h=>h)
 replace r6:=r6.keep g8 (fun h=>h)
 replace r7:=r7.keep g8 (fun h=>h)
 replace r8:=r8.keep g8 (fun h=>h)
 replace r10:=r10.keep g8 (fun h=>h)
 replace h:=h.keep g8 (fun h=>h) (fun h=>h)
 replace f1:=f1.trans (g8.mono (fun _ _ h=>h.elim))
 clear g8
 obtain ⟨c21x0,c21x1,c21x2,c21x3⟩:=cl r8
 obtain ⟨c22x0,c22x1,c22x2,c22x3⟩:=cl r6
 obtain ⟨z23x0,z23x1,z23x2,z23x3⟩:=db r6
 obtain ⟨c24x0,c24x1,c24x2,c24x3,c24x4⟩:=bl r7
 obtain ⟨z25x0,z25x1,z25x2,z25x3,z25x4⟩:=bz r7
 go_wp2_with fail
 try rw[Exit.noGoto_ret]
 refine bodyPost_ret (lk rfl rfl ((r6.put4 _ _ _ _).past5 (by omega) _ _ _ _ _) rfl rfl ((r7.past4 (by omega) _ _ _ _).put5 _ _ _ _ _) rfl) rfl ?_
 exact ⟨rfl,((f1.put4 (Or.inl (by omega)) _ _ _ _).put5 (Or.inl (by omega)) _ _ _ _ _),((rs.past4 (by omega) _ _ _ _).past5 (by omega) _ _ _ _ _)⟩
end Go.Proofs.YtibhbjbpodlpiaaGreat
