/-
  Contracts over the translation. No statement is proved here.
-/
import Derived.Test.YtibhbjbpodlpiaaGreatQWalkPure
import Derived.Test.YtibhbjbpodlpiaaGreatQWalkReachC
import Derived.Test.YtibhbjbpodlpiaaGreatQWalkRefN
set_option maxRecDepth 100000
set_option maxHeartbeats 8000000
namespace Go.Proofs.YtibhbjbpodlpiaaGreat
open Go.RowKit
open Go.Value renaming int → U, bool → β, pointer → π, tuple → τ
open Go.IntKind renaming i64 → κ, u32 → μ
open Go.Obj renaming cells → ω
open Go.Ending renaming returned → ρ
open Go.Proofs.Tryz renaming prog → pQ
theorem rreach_hit1 (w:World) (p bf nf:Nat) (bs:List UInt8) (bt:Nat) (T:Nat→Ln) (fo mi vm sd first second page ix:Int) (h:IsRef w p bf nf bs) (hT:gj w bt T fo mi) (hG:kh T) (_hU:vl T) (hfo:0≤fo∧fo<1000000) (hmi:0≤mi∧mi<1000000) (n1:p≠bt) (n2:bf≠bt) (h1:ansB (idx T vm sd page 8)=true) (h3:bits .and .i64 (wb T (idx T vm sd page 8)) 1≠0) :
  Calls pQ 83 #[π (some ⟨p,0,none⟩),π (some ⟨bt,0,none⟩),.agg #[U κ vm,U κ sd,U κ first,U κ second],U κ page,U κ 1,U κ ix] w fun e w'=>e=ρ (τ #[U κ (ansF T (idx T vm sd page 8)),.agg #[U κ 0,U κ 0,U κ 0,β false,U κ 0]])∧Fr (at' bt) w w'∧gj w' bt T (fo+lj (idx T vm sd page 8)) (mi+li (idx T vm sd page 8)):=by
 have f1:=Fr.refl (at' bt) w
 have lt:=hT.lt
 have t3:(bits .and .i64 (wb T (idx T vm sd page 8)) 1 != 0)=true:=by simp[h3]
 clear h3
 have r8:=ba w #[U κ vm,U κ sd,U κ first,U κ second] 63
 replace hT:=hT.alloc (ω #[U κ vm,U κ sd,U κ first,U κ second] 63)
 replace h:=h.alloc (ω #[U κ vm,U κ sd,U κ first,U κ second] 63)
 replace f1:=f1.alloc (ω #[U κ vm,U κ sd,U κ first,U κ second] 63)
 have r13:=bq w (ω #[U κ vm,U κ sd,U κ first,U κ second] 63) #[U κ 0,U κ 0,U κ 0,β false,U κ 0] 50
 replace hT:=hT.alloc (ω #[U κ 0,U κ 0,U κ 0,β false,U κ 0] 50)
 replace r8:=r8.alloc (ω #[U κ 0,U κ 0,U κ 0,β false,U κ 0] 50)
 replace h:=h.alloc (ω #[U κ 0,U κ 0,U κ 0,β false,U κ 0] 50)
 replace f1:=f1.alloc (ω #[U κ 0,U κ 0,U κ 0,β false,U κ 0] 50)
 obtain ⟨c0x0,c0x1,c0x2,c0x3⟩:=cl r8
 have lt2:Hid (bt<w.heap.size):=lt
 clear lt
 go_enter Tryz.func83,Tryz.ntmps83
 go_wp2_with fail
 refine(lb _ _ _ _ _ _ _ _ hT hG hfo hmi).mono ?_
 rintro e v1 ⟨rfl,g1,hT1⟩
 clear c0x0 c0x1 c0x2 c0x3
 have lt:=lt2.out
 replace r8:=r8.keep g1 (show _≠_ by omega)
 replace r13:=r13.keep g1 (show _≠_ by omega)
 replace h:=h.keep g1 n1 n2
 replace f1:=f1.trans g1
 clear hT g1 lt
 rw[h1]
 obtain ⟨c1x0,c1x1,c1x2,c1x3,c1x4⟩:=bl r13
 obtain ⟨z2x0,z2x1,z2x2,z2x3,z2x4⟩:=bz r13
 go_wp2_with fail
 refine bodyPost_ret (jt rfl rfl (r13.put5 _ _ _ _ _) rfl) rfl ?_
 exact ⟨rfl,f1.put5 (Or.inl (by omega)) _ _ _ _ _,hT1.keep ((Fr.refl (at' (w.heap.size+1)) _).put5 (Or.inr rfl) _ _ _ _ _) (show _≠_ by have:=lt2.out;omega)⟩
theorem rreach_hit2 (w:World) (p bf nf:Nat) (bs:List UInt8) (bt:Nat) (T:Nat→Ln) (fo mi vm sd first second page ix:Int) (h:IsRef w p bf nf bs) (hT:gj w bt T fo mi) (hG:kh T) (_hU:vl T) (hfo:0≤fo∧fo<1000000) (hmi:0≤mi∧mi<1000000) (n1:p≠bt) (n2:bf≠bt) (h1:ansB (idx T vm sd page 8)=true) (h3:bits .and .i64 (wb T (idx T vm sd page 8)) 2≠0) :
  Calls pQ 83 #[π (some ⟨p,0,none⟩),π (some ⟨bt,0,none⟩),.agg #[U κ vm,U κ sd,U κ first,U κ second],U κ page,U κ 2,U κ ix] w fun e w'=>e=ρ (τ #[U κ (ansF T (idx T vm sd page 8)),.agg #[U κ 0,U κ 0,U κ 0,β false,U κ 0]])∧Fr (at' bt) w w'∧gj w' bt T (fo+lj (idx T vm sd page 8)) (mi+li (idx T vm sd page 8)):=by
 have f1:=Fr.refl (at' bt) w
 have lt:=hT.lt
 have t3:(bits .and .i64 (wb T (idx T vm sd page 8)) 2 != 0)=true:=by simp[h3]
 clear h3
 have r8:=ba w #[U κ vm,U κ sd,U κ first,U κ second] 63
 replace hT:=hT.alloc (ω #[U κ vm,U κ sd,U κ first,U κ second] 63)
 replace h:=h.alloc (ω #[U κ vm,U κ sd,U κ first,U κ second] 63)
 replace f1:=f1.alloc (ω #[U κ vm,U κ sd,U κ first,U κ second] 63)
 have r13:=bq w (ω #[U κ vm,U κ sd,U κ first,U κ second] 63) #[U κ 0,U κ 0,U κ 0,β false,U κ 0] 50
 replace hT:=hT.alloc (ω #[U κ 0,U κ 0,U κ 0,β false,U κ 0] 50)
 replace r8:=r8.alloc (ω #[U κ 0,U κ 0,U κ 0,β false,U κ 0] 50)
 replace h:=h.alloc (ω #[U κ 0,U κ 0,U κ 0,β false,U κ 0] 50)
 replace f1:=f1.alloc (ω #[U κ 0,U κ 0,U κ 0,β false,U κ 0] 50)
 obtain ⟨c0x0,c0x1,c0x2,c0x3⟩:=cl r8
 have lt2:Hid (bt<w.heap.size):=lt
 clear lt
 go_enter Tryz.func83,Tryz.ntmps83
 go_wp2_with fail
 refine(lb _ _ _ _ _ _ _ _ hT hG hfo hmi).mono ?_
 rintro e v1 ⟨rfl,g1,hT1⟩
 clear c0x0 c0x1 c0x2 c0x3
 have lt:=lt2.out
 replace r8:=r8.keep g1 (show _≠_ by omega)
 replace r13:=r13.keep g1 (show _≠_ by omega)
 replace h:=h.keep g1 n1 n2
 replace f1:=f1.trans g1
 clear hT g1 lt
 rw[h1]
 obtain ⟨c1x0,c1x1,c1x2,c1x3,c1x4⟩:=bl r13
 obtain ⟨z2x0,z2x1,z2x2,z2x3,z2x4⟩:=bz r13
 go_wp2_with fail
 refine bodyPost_ret (jt rfl rfl (r13.put5 _ _ _ _ _) rfl) rfl ?_
 exact ⟨rfl,f1.put5 (Or.inl (by omega)) _ _ _ _ _,hT1.keep ((Fr.refl (at' (w.heap.size+1)) _).put5 (Or.inr rfl) _ _ _ _ _) (show _≠_ by have:=lt2.out;omega)⟩
theorem rreach_hit4 (w:World) (p bf nf:Nat) (bs:List UInt8) (bt:Nat) (T:Nat→Ln) (fo mi vm sd first second page ix:Int) (h:IsRef w p bf nf bs) (hT:gj w bt T fo mi) (hG:kh T) (_hU:vl T) (hfo:0≤fo∧fo<1000000) (hmi:0≤mi∧mi<1000000) (n1:p≠bt) (n2:bf≠bt) (h1:ansB (idx T vm sd page 8)=true) (h3:bits .and .i64 (wb T (idx T vm sd page 8)) 4≠0) :
  Calls pQ 83 #[π (some ⟨p,0,none⟩),π (some ⟨bt,0,none⟩),.agg #[U κ vm,U κ sd,U κ first,U κ second],U κ page,U κ 4,U κ ix] w fun e w'=>e=ρ (τ #[U κ (ansF T (idx T vm sd page 8)),.agg #[U κ 0,U κ 0,U κ 0,β false,U κ 0]])∧Fr (at' bt) w w'∧gj w' bt T (fo+lj (idx T vm sd page 8)) (mi+li (idx T vm sd page 8)):=by
 have f1:=Fr.refl (at' bt) w
 have lt:=hT.lt
 have t3:(bits .and .i64 (wb T (idx T vm sd page 8)) 4 != 0)=true:=by simp[h3]
 clear h3
 have r8:=ba w #[U κ vm,U κ sd,U κ first,U κ second] 63
 replace hT:=hT.alloc (ω #[U κ vm,U κ sd,U κ first,U κ second] 63)
 replace h:=h.alloc (ω #[U κ vm,U κ sd,U κ first,U κ second] 63)
 replace f1:=f1.alloc (ω #[U κ vm,U κ sd,U κ first,U κ second] 63)
 have r13:=bq w (ω #[U κ vm,U κ sd,U κ first,U κ second] 63) #[U κ 0,U κ 0,U κ 0,β false,U κ 0] 50
 replace hT:=hT.alloc (ω #[U κ 0,U κ 0,U κ 0,β false,U κ 0] 50)
 replace r8:=r8.alloc (ω #[U κ 0,U κ 0,U κ 0,β false,U κ 0] 50)
 replace h:=h.alloc (ω #[U κ 0,U κ 0,U κ 0,β false,U κ 0] 50)
 replace f1:=f1.alloc (ω #[U κ 0,U κ 0,U κ 0,β false,U κ 0] 50)
 obtain ⟨c0x0,c0x1,c0x2,c0x3⟩:=cl r8
 have lt2:Hid (bt<w.heap.size):=lt
 clear lt
 go_enter Tryz.func83,Tryz.ntmps83
 go_wp2_with fail
 refine(lb _ _ _ _ _ _ _ _ hT hG hfo hmi).mono ?_
 rintro e v1 ⟨rfl,g1,hT1⟩
 clear c0x0 c0x1 c0x2 c0x3
 have lt:=lt2.out
 replace r8:=r8.keep g1 (show _≠_ by omega)
 replace r13:=r13.keep g1 (show _≠_ by omega)
 replace h:=h.keep g1 n1 n2
 replace f1:=f1.trans g1
 clear hT g1 lt
 rw[h1]
 obtain ⟨c1x0,c1x1,c1x2,c1x3,c1x4⟩:=bl r13
 obtain ⟨z2x0,z2x1,z2x2,z2x3,z2x4⟩:=bz r13
 go_wp2_with fail
 refine bodyPost_ret (jt rfl rfl (r13.put5 _ _ _ _ _) rfl) rfl ?_
 exact ⟨rfl,f1.put5 (Or.inl (by omega)) _ _ _ _ _,hT1.keep ((Fr.refl (at' (w.heap.size+1)) _).put5 (Or.inr rfl) _ _ _ _ _) (show _≠_ by have:=lt2.out;omega)⟩
theorem rreach_ano (w:World) (p bf nf:Nat) (bs:List UInt8) (bt:Nat) (T:Nat→Ln) (fo mi vm sd first second page want ix:Int) (h:IsRef w p bf nf bs) (hT:gj w bt T fo mi) (hG:kh T) (_hU:vl T) (hfo:0≤fo∧fo<1000000) (hmi:0≤mi∧mi<1000000) (n1:p≠bt) (n2:bf≠bt) (h1:ansB (idx T vm sd page 8)=false) (x:Res) (hx:cg bs nf first second page want=x) (hk:x.ft.k≠0) :
  Calls pQ 83 #[π (some ⟨p,0,none⟩),π (some ⟨bt,0,none⟩),.agg #[U κ vm,U κ sd,U κ first,U κ second],U κ page,U κ want,U κ ix] w fun e w'=>e=ρ (τ #[U κ 0,.agg #[U κ x.ft.k,U κ x.ft.s,U κ x.ft.l,β x.ft.wk,U κ x.ft.p]])∧Fr (at' bt) w w'∧gj w' bt T (fo+lj (idx T vm sd page 8)) (mi+li (idx T vm sd page 8)):=by
 have hs:=fun w0 h0=>lr w0 p bf nf bs vm sd first second page want h0
 rw[hx] at hs
 have t4:(x.ft.k != 0)=true:=by simp[hk]
 clear hx hk
 have f1:=Fr.refl (at' bt) w
 have lt:=hT.lt
 have r8:=ba w #[U κ vm,U κ sd,U κ first,U κ second] 63
 replace hT:=hT.alloc (ω #[U κ vm,U κ sd,U κ first,U κ second] 63)
 replace h:=h.alloc (ω #[U κ vm,U κ sd,U κ first,U κ second] 63)
 replace f1:=f1.alloc (ω #[U κ vm,U κ sd,U κ first,U κ second] 63)
 have r13:=bq w (ω #[U κ vm,U κ sd,U κ first,U κ second] 63) #[U κ 0,U κ 0,U κ 0,β false,U κ 0] 50
 replace hT:=hT.alloc (ω #[U κ 0,U κ 0,U κ 0,β false,U κ 0] 50)
 replace r8:=r8.alloc (ω #[U κ 0,U κ 0,U κ 0,β false,U κ 0] 50)
 replace h:=h.alloc (ω #[U κ 0,U κ 0,U κ 0,β false,U κ 0] 50)
 replace f1:=f1.alloc (ω #[U κ 0,U κ 0,U κ 0,β false,U κ 0] 50)
 obtain ⟨c0x0,c0x1,c0x2,c0x3⟩:=cl r8
 have lt2:Hid (bt<w.heap.size):=lt
 clear lt
 go_enter Tryz.func83,Tryz.ntmps83
 go_wp2_with fail
 refine(lb _ _ _ _ _ _ _ _ hT hG hfo hmi).mono ?_
 rintro e v1 ⟨rfl,g1,hT1⟩
 clear c0x0 c0x1 c0x2 c0x3
 have lt:=lt2.out
 replace r8:=r8.keep g1 (show _≠_ by omega)
 replace r13:=r13.keep g1 (show _≠_ by omega)
 replace h:=h.keep g1 n1 n2
 replace f1:=f1.trans g1
 clear hT g1 lt
 rw[h1]
 obtain ⟨c1x0,c1x1,c1x2,c1x3⟩:=cl r8
 go_wp2_with fail
 refine(hs _ h).mono ?_
 rintro e v2 ⟨rfl,g2⟩
 clear c1x0 c1x1 c1x2 c1x3
 replace hT1:=hT1.keep g2 (fun h=>h)
 replace r8:=r8.keep g2 (fun h=>h)
 replace r13:=r13.keep g2 (fun h=>h)
 replace h:=h.keep g2 (fun h=>h) (fun h=>h)
 replace f1:=f1.trans (g2.mono (fun _ _ h=>h.elim))
 clear g2
 clear h hs
 have l5:Hid (bt<v2.heap.size∧w.heap.size+1<v2.heap.size):=⟨hT1.lt,r13.lt⟩
 have r17:=ba v2 #[U κ x.ft.k,U κ x.ft.s,U κ x.ft.l,β x.ft.wk,U κ x.ft.p] 50
 replace hT1:=hT1.alloc (ω #[U κ x.ft.k,U κ x.ft.s,U κ x.ft.l,β x.ft.wk,U κ x.ft.p] 50)
 replace r8:=r8.alloc (ω #[U κ x.ft.k,U κ x.ft.s,U κ x.ft.l,β x.ft.wk,U κ x.ft.p] 50)
 replace r13:=r13.alloc (ω #[U κ x.ft.k,U κ x.ft.s,U κ x.ft.l,β x.ft.wk,U κ x.ft.p] 50)
 replace f1:=f1.alloc (ω #[U κ x.ft.k,U κ x.ft.s,U κ x.ft.l,β x.ft.wk,U κ x.ft.p] 50)
 obtain ⟨c2x0,c2x1,c2x2,c2x3,c2x4⟩:=bl r17
 obtain ⟨c3x0,c3x1,c3x2,c3x3,c3x4⟩:=bl r13
 obtain ⟨z4x0,z4x1,z4x2,z4x3,z4x4⟩:=bz r13
 go_wp2_with fail
 go_region
 go_wp2_with fail
 refine bodyPost_ret (jt rfl rfl (r13.put5 _ _ _ _ _).drew rfl) rfl ?_
 exact ⟨rfl,(f1.put5 (Or.inl (by omega)) _ _ _ _ _).drew,hT1.keep ((Fr.refl (at' (w.heap.size+1)) _).put5 (Or.inr rfl) _ _ _ _ _).drew (show _≠_ by have:=lt2.out;omega)⟩
theorem rreach_aok (w:World) (p bf nf:Nat) (bs:List UInt8) (bt:Nat) (T:Nat→Ln) (fo mi vm sd first second page want ix:Int) (h:IsRef w p bf nf bs) (hT:gj w bt T fo mi) (hG:kh T) (hU:vl T) (hfo:0≤fo∧fo<1000000) (hmi:0≤mi∧mi<1000000) (n1:p≠bt) (n2:bf≠bt) (h1:ansB (idx T vm sd page 8)=false) (x:Res) (hx:cg bs nf first second page want=x) (hk:x.ft.k=0) :
  Calls pQ 83 #[π (some ⟨p,0,none⟩),π (some ⟨bt,0,none⟩),.agg #[U κ vm,U κ sd,U κ first,U κ second],U κ page,U κ want,U κ ix] w fun e w'=>e=ρ (τ #[U κ x.fr,.agg #[U κ x.ft.k,U κ x.ft.s,U κ x.ft.l,β x.ft.wk,U κ x.ft.p]])∧Fr (at' bt) w w'∧gj w' bt (mx T ix ⟨vm,sd,page,x.fr,x.ri⟩) (fo+lj (idx T vm sd page 8)) (mi+li (idx T vm sd page 8)):=by
 have hs:=fun w0 h0=>lr w0 p bf nf bs vm sd first second page want h0
 rw[hx] at hs
 have t4:(x.ft.k != 0)=false:=by simp[hk]
 clear hx hk
 have f1:=Fr.refl (at' bt) w
 have lt:=hT.lt
 have r8:=ba w #[U κ vm,U κ sd,U κ first,U κ second] 63
 replace hT:=hT.alloc (ω #[U κ vm,U κ sd,U κ first,U κ second] 63)
 replace h:=h.alloc (ω #[U κ vm,U κ sd,U κ first,U κ second] 63)
 replace f1:=f1.alloc (ω #[U κ vm,U κ sd,U κ first,U κ second] 63)
 have r13:=bq w (ω #[U κ vm,U κ sd,U κ first,U κ second] 63) #[U κ 0,U κ 0,U κ 0,β false,U κ 0] 50
 replace hT:=hT.alloc (ω #[U κ 0,U κ 0,U κ 0,β false,U κ 0] 50)
 replace r8:=r8.alloc (ω #[U κ 0,U κ 0,U κ 0,β false,U κ 0] 50)
 replace h:=h.alloc (ω #[U κ 0,U κ 0,U κ 0,β false,U κ 0] 50)
 replace f1:=f1.alloc (ω #[U κ 0,U κ 0,U κ 0,β false,U κ 0] 50)
 obtain ⟨c0x0,c0x1,c0x2,c0x3⟩:=cl r8
 have lt2:Hid (bt<w.heap.size):=lt
 clear lt
 go_enter Tryz.func83,Tryz.ntmps83
 go_wp2_with fail
 refine(lb _ _ _ _ _ _ _ _ hT hG hfo hmi).mono ?_
 rintro e v1 ⟨rfl,g1,hT1⟩
 clear c0x0 c0x1 c0x2 c0x3
 have lt:=lt2.out
 replace r8:=r8.keep g1 (show _≠_ by omega)
 replace r13:=r13.keep g1 (show _≠_ by omega)
 replace h:=h.keep g1 n1 n2
 replace f1:=f1.trans g1
 clear hT g1 lt
 rw[h1]
 obtain ⟨c1x0,c1x1,c1x2,c1x3⟩:=cl r8
 go_wp2_with fail
 refine(hs _ h).mono ?_
 rintro e v2 ⟨rfl,g2⟩
 clear c1x0 c1x1 c1x2 c1x3
 replace hT1:=hT1.keep g2 (fun h=>h)
 replace r8:=r8.keep g2 (fun h=>h)
 replace r13:=r13.keep g2 (fun h=>h)
 replace h:=h.keep g2 (fun h=>h) (fun h=>h)
 replace f1:=f1.trans (g2.mono (fun _ _ h=>h.elim))
 clear g2
 clear h hs
 have l5:Hid (bt<v2.heap.size∧w.heap.size+1<v2.heap.size):=⟨hT1.lt,r13.lt⟩
 have r17:=ba v2 #[U κ x.ft.k,U κ x.ft.s,U κ x.ft.l,β x.ft.wk,U κ x.ft.p] 50
 replace hT1:=hT1.alloc (ω #[U κ x.ft.k,U κ x.ft.s,U κ x.ft.l,β x.ft.wk,U κ x.ft.p] 50)
 replace r8:=r8.alloc (ω #[U κ x.ft.k,U κ x.ft.s,U κ x.ft.l,β x.ft.wk,U κ x.ft.p] 50)
 replace r13:=r13.alloc (ω #[U κ x.ft.k,U κ x.ft.s,U κ x.ft.l,β x.ft.wk,U κ x.ft.p] 50)
 replace f1:=f1.alloc (ω #[U κ x.ft.k,U κ x.ft.s,U κ x.ft.l,β x.ft.wk,U κ x.ft.p] 50)
 obtain ⟨c2x0,c2x1,c2x2,c2x3,c2x4⟩:=bl r17
 obtain ⟨c3x0,c3x1,c3x2,c3x3⟩:=cl r8
 go_wp2_with fail
 refine(w9 _ _ _ _ _ hT1 hG hU ix ⟨vm,sd,page,x.fr,x.ri⟩).mono ?_
 rintro e v9 ⟨rfl,g9,hT9⟩
 clear c2x0 c2x1 c2x2 c2x3 c2x4 c3x0 c3x1 c3x2 c3x3
 have lt:=lt2.out
 have l6:=l5.out
 replace r13:=r13.keep g9 (show _≠_ by omega)
 replace r17:=r17.keep g9 (show _≠_ by omega)
 replace f1:=f1.trans g9
 clear hT1 g9 lt l6 r8
 obtain ⟨c4x0,c4x1,c4x2,c4x3,c4x4⟩:=bl r17
 obtain ⟨c5x0,c5x1,c5x2,c5x3,c5x4⟩:=bl r13
 obtain ⟨z6x0,z6x1,z6x2,z6x3,z6x4⟩:=bz r13
 go_wp2_with fail
 go_region
 go_wp2_with fail
 refine bodyPost_ret (jt rfl rfl (r13.put5 _ _ _ _ _).drew rfl) rfl ?_
 exact ⟨rfl,(f1.put5 (Or.inl (by omega)) _ _ _ _ _).drew,hT9.keep ((Fr.refl (at' (w.heap.size+1)) _).put5 (Or.inr rfl) _ _ _ _ _).drew (show _≠_ by have:=lt2.out;omega)⟩
theorem rreach_bno (w:World) (p bf nf:Nat) (bs:List UInt8) (bt:Nat) (T:Nat→Ln) (fo mi vm sd first second page want ix:Int) (h:IsRef w p bf nf bs) (hT:gj w bt T fo mi) (hG:kh T) (_hU:vl T) (hfo:0≤fo∧fo<1000000) (hmi:0≤mi∧mi<1000000) (n1:p≠bt) (n2:bf≠bt) (h1:ansB (idx T vm sd page 8)=true) (h3:bits .and .i64 (wb T (idx T vm sd page 8)) want=0) (x:Res) (hx:cg bs nf first second page want=x) (hk:x.ft.k≠0) :
  Calls pQ 83 #[π (some ⟨p,0,none⟩),π (some ⟨bt,0,none⟩),.agg #[U κ vm,U κ sd,U κ first,U κ second],U κ page,U κ want,U κ ix] w fun e w'=>e=ρ (τ #[U κ 0,.agg #[U κ x.ft.k,U κ x.ft.s,U κ x.ft.l,β x.ft.wk,U κ x.ft.p]])∧Fr (at' bt) w w'∧gj w' bt T (fo+lj (idx T vm sd page 8)) (mi+li (idx T vm sd page 8)):=by
 have hs:=fun w0 h0=>lr w0 p bf nf bs vm sd first second page want h0
 rw[hx] at hs
 have t4:(x.ft.k != 0)=true:=by simp[hk]
 clear hx hk
 have f1:=Fr.refl (at' bt) w
 have lt:=hT.lt
 have t3:(bits .and .i64 (wb T (idx T vm sd page 8)) want != 0)=false:=by simp[h3]
 clear h3
 have r8:=ba w #[U κ vm,U κ sd,U κ first,U κ second] 63
 replace hT:=hT.alloc (ω #[U κ vm,U κ sd,U κ first,U κ second] 63)
 replace h:=h.alloc (ω #[U κ vm,U κ sd,U κ first,U κ second] 63)
 replace f1:=f1.alloc (ω #[U κ vm,U κ sd,U κ first,U κ second] 63)
 have r13:=bq w (ω #[U κ vm,U κ sd,U κ first,U κ second] 63) #[U κ 0,U κ 0,U κ 0,β false,U κ 0] 50
 replace hT:=hT.alloc (ω #[U κ 0,U κ 0,U κ 0,β false,U κ 0] 50)
 replace r8:=r8.alloc (ω #[U κ 0,U κ 0,U κ 0,β false,U κ 0] 50)
 replace h:=h.alloc (ω #[U κ 0,U κ 0,U κ 0,β false,U κ 0] 50)
 replace f1:=f1.alloc (ω #[U κ 0,U κ 0,U κ 0,β false,U κ 0] 50)
 obtain ⟨c0x0,c0x1,c0x2,c0x3⟩:=cl r8
 have lt2:Hid (bt<w.heap.size):=lt
 clear lt
 go_enter Tryz.func83,Tryz.ntmps83
 go_wp2_with fail
 refine(lb _ _ _ _ _ _ _ _ hT hG hfo hmi).mono ?_
 rintro e v1 ⟨rfl,g1,hT1⟩
 clear c0x0 c0x1 c0x2 c0x3
 have lt:=lt2.out
 replace r8:=r8.keep g1 (show _≠_ by omega)
 replace r13:=r13.keep g1 (show _≠_ by omega)
 replace h:=h.keep g1 n1 n2
 replace f1:=f1.trans g1
 clear hT g1 lt
 rw[h1]
 obtain ⟨c1x0,c1x1,c1x2,c1x3⟩:=cl r8
 go_wp2_with fail
 refine(hs _ h).mono ?_
 rintro e v2 ⟨rfl,g2⟩
 clear c1x0 c1x1 c1x2 c1x3
 replace hT1:=hT1.keep g2 (fun h=>h)
 replace r8:=r8.keep g2 (fun h=>h)
 replace r13:=r13.keep g2 (fun h=>h)
 replace h:=h.keep g2 (fun h=>h) (fun h=>h)
 replace f1:=f1.trans (g2.mono (fun _ _ h=>h.elim))
 clear g2
 clear h hs
 have l5:Hid (bt<v2.heap.size∧w.heap.size+1<v2.heap.size):=⟨hT1.lt,r13.lt⟩
 have r17:=ba v2 #[U κ x.ft.k,U κ x.ft.s,U κ x.ft.l,β x.ft.wk,U κ x.ft.p] 50
 replace hT1:=hT1.alloc (ω #[U κ x.ft.k,U κ x.ft.s,U κ x.ft.l,β x.ft.wk,U κ x.ft.p] 50)
 replace r8:=r8.alloc (ω #[U κ x.ft.k,U κ x.ft.s,U κ x.ft.l,β x.ft.wk,U κ x.ft.p] 50)
 replace r13:=r13.alloc (ω #[U κ x.ft.k,U κ x.ft.s,U κ x.ft.l,β x.ft.wk,U κ x.ft.p] 50)
 replace f1:=f1.alloc (ω #[U κ x.ft.k,U κ x.ft.s,U κ x.ft.l,β x.ft.wk,U κ x.ft.p] 50)
 obtain ⟨c2x0,c2x1,c2x2,c2x3,c2x4⟩:=bl r17
 obtain ⟨c3x0,c3x1,c3x2,c3x3,c3x4⟩:=bl r13
 obtain ⟨z4x0,z4x1,z4x2,z4x3,z4x4⟩:=bz r13
 go_wp2_with fail
 go_region
 go_wp2_with fail
 refine bodyPost_ret (jt rfl rfl (r13.put5 _ _ _ _ _).drew rfl) rfl ?_
 exact ⟨rfl,(f1.put5 (Or.inl (by omega)) _ _ _ _ _).drew,hT1.keep ((Fr.refl (at' (w.heap.size+1)) _).put5 (Or.inr rfl) _ _ _ _ _).drew (show _≠_ by have:=lt2.out;omega)⟩
theorem rreach_bok (w:World) (p bf nf:Nat) (bs:List UInt8) (bt:Nat) (T:Nat→Ln) (fo mi vm sd first second page want ix:Int) (h:IsRef w p bf nf bs) (hT:gj w bt T fo mi) (hG:kh T) (hU:vl T) (hfo:0≤fo∧fo<1000000) (hmi:0≤mi∧mi<1000000) (n1:p≠bt) (n2:bf≠bt) (h1:ansB (idx T vm sd page 8)=true) (h3:bits .and .i64 (wb T (idx T vm sd page 8)) want=0) (x:Res) (hx:cg bs nf first second page want=x) (hk:x.ft.k=0) :
  Calls pQ 83 #[π (some ⟨p,0,none⟩),π (some ⟨bt,0,none⟩),.agg #[U κ vm,U κ sd,U κ first,U κ second],U κ page,U κ want,U κ ix] w fun e w'=>e=ρ (τ #[U κ x.fr,.agg #[U κ x.ft.k,U κ x.ft.s,U κ x.ft.l,β x.ft.wk,U κ x.ft.p]])∧Fr (at' bt) w w'∧gj w' bt (mx T ix ⟨vm,sd,page,x.fr,x.ri⟩) (fo+lj (idx T vm sd page 8)) (mi+li (idx T vm sd page 8)):=by
 have hs:=fun w0 h0=>lr w0 p bf nf bs vm sd first second page want h0
 rw[hx] at hs
 have t4:(x.ft.k != 0)=false:=by simp[hk]
 clear hx hk
 have f1:=Fr.refl (at' bt) w
 have lt:=hT.lt
 have t3:(bits .and .i64 (wb T (idx T vm sd page 8)) want != 0)=false:=by simp[h3]
 clear h3
 have r8:=ba w #[U κ vm,U κ sd,U κ first,U κ second] 63
 replace hT:=hT.alloc (ω #[U κ vm,U κ sd,U κ first,U κ second] 63)
 replace h:=h.alloc (ω #[U κ vm,U κ sd,U κ first,U κ second] 63)
 replace f1:=f1.alloc (ω #[U κ vm,U κ sd,U κ first,U κ second] 63)
 have r13:=bq w (ω #[U κ vm,U κ sd,U κ first,U κ second] 63) #[U κ 0,U κ 0,U κ 0,β false,U κ 0] 50
 replace hT:=hT.alloc (ω #[U κ 0,U κ 0,U κ 0,β false,U κ 0] 50)
 replace r8:=r8.alloc (ω #[U κ 0,U κ 0,U κ 0,β false,U κ 0] 50)
 replace h:=h.alloc (ω #[U κ 0,U κ 0,U κ 0,β false,U κ 0] 50)
 replace f1:=f1.alloc (ω #[U κ 0,U κ 0,U κ 0,β false,U κ 0] 50)
 obtain ⟨c0x0,c0x1,c0x2,c0x3⟩:=cl r8
 have lt2:Hid (bt<w.heap.size):=lt
 clear lt
 go_enter Tryz.func83,Tryz.ntmps83
 go_wp2_with fail
 refine(lb _ _ _ _ _ _ _ _ hT hG hfo hmi).mono ?_
 rintro e v1 ⟨rfl,g1,hT1⟩
 clear c0x0 c0x1 c0x2 c0x3
 have lt:=lt2.out
 replace r8:=r8.keep g1 (show _≠_ by omega)
 replace r13:=r13.keep g1 (show _≠_ by omega)
 replace h:=h.keep g1 n1 n2
 replace f1:=f1.trans g1
 clear hT g1 lt
 rw[h1]
 obtain ⟨c1x0,c1x1,c1x2,c1x3⟩:=cl r8
 go_wp2_with fail
 refine(hs _ h).mono ?_
 rintro e v2 ⟨rfl,g2⟩
 clear c1x0 c1x1 c1x2 c1x3
 replace hT1:=hT1.keep g2 (fun h=>h)
 replace r8:=r8.keep g2 (fun h=>h)
 replace r13:=r13.keep g2 (fun h=>h)
 replace h:=h.keep g2 (fun h=>h) (fun h=>h)
 replace f1:=f1.trans (g2.mono (fun _ _ h=>h.elim))
 clear g2
 clear h hs
 have l5:Hid (bt<v2.heap.size∧w.heap.size+1<v2.heap.size):=⟨hT1.lt,r13.lt⟩
 have r17:=ba v2 #[U κ x.ft.k,U κ x.ft.s,U κ x.ft.l,β x.ft.wk,U κ x.ft.p] 50
 replace hT1:=hT1.alloc (ω #[U κ x.ft.k,U κ x.ft.s,U κ x.ft.l,β x.ft.wk,U κ x.ft.p] 50)
 replace r8:=r8.alloc (ω #[U κ x.ft.k,U κ x.ft.s,U κ x.ft.l,β x.ft.wk,U κ x.ft.p] 50)
 replace r13:=r13.alloc (ω #[U κ x.ft.k,U κ x.ft.s,U κ x.ft.l,β x.ft.wk,U κ x.ft.p] 50)
 replace f1:=f1.alloc (ω #[U κ x.ft.k,U κ x.ft.s,U κ x.ft.l,β x.ft.wk,U κ x.ft.p] 50)
 obtain ⟨c2x0,c2x1,c2x2,c2x3,c2x4⟩:=bl r17
 obtain ⟨c3x0,c3x1,c3x2,c3x3⟩:=cl r8
 go_wp2_with fail
 refine(w9 _ _ _ _ _ hT1 hG hU ix ⟨vm,sd,page,x.fr,x.ri⟩).mono ?_
 rintro e v9 ⟨rfl,g9,hT9⟩
 clear c2x0 c2x1 c2x2 c2x3 c2x4 c3x0 c3x1 c3x2 c3x3
 have lt:=lt2.out
 have l6:=l5.out
 replace r13:=r13.keep g9 (show _≠_ by omega)
 replace r17:=r17.keep g9 (show _≠_ by omega)
 replace f1:=f1.trans g9
 clear hT1 g9 lt l6 r8
 obtain ⟨c4x0,c4x1,c4x2,c4x3,c4x4⟩:=bl r17
 obtain ⟨c5x0,c5x1,c5x2,c5x3,c5x4⟩:=bl r13
 obtain ⟨z6x0,z6x1,z6x2,z6x3,z6x4⟩:=bz r13
 go_wp2_with fail
 go_region
 go_wp2_with fail
 refine bodyPost_ret (jt rfl rfl (r13.put5 _ _ _ _ _).drew rfl) rfl ?_
 exact ⟨rfl,(f1.put5 (Or.inl (by omega)) _ _ _ _ _).drew,hT9.keep ((Fr.refl (at' (w.heap.size+1)) _).put5 (Or.inr rfl) _ _ _ _ _).drew (show _≠_ by have:=lt2.out;omega)⟩
theorem rreach_cno (w:World) (p bf nf:Nat) (bs:List UInt8) (bt:Nat) (T:Nat→Ln) (fo mi vm sd first second page want ix:Int) (h:IsRef w p bf nf bs) (hT:gj w bt T fo mi) (hG:kh T) (_hU:vl T) (hfo:0≤fo∧fo<1000000) (hmi:0≤mi∧mi<1000000) (n1:p≠bt) (n2:bf≠bt) (h1:ansB (idx T vm sd page 8)=true) (h3:bits .and .i64 (wb T (idx T vm sd page 8)) want≠0) (h2:isR want=false) (x:Res) (hx:cg bs nf first second page want=x) (hk:x.ft.k≠0) :
  Calls pQ 83 #[π (some ⟨p,0,none⟩),π (some ⟨bt,0,none⟩),.agg #[U κ vm,U κ sd,U κ first,U κ second],U κ page,U κ want,U κ ix] w fun e w'=>e=ρ (τ #[U κ 0,.agg #[U κ x.ft.k,U κ x.ft.s,U κ x.ft.l,β x.ft.wk,U κ x.ft.p]])∧Fr (at' bt) w w'∧gj w' bt T (fo+lj (idx T vm sd page 8)) (mi+li (idx T vm sd page 8)):=by
 have hs:=fun w0 h0=>lr w0 p bf nf bs vm sd first second page want h0
 rw[hx] at hs
 have t4:(x.ft.k != 0)=true:=by simp[hk]
 clear hx hk
 have f1:=Fr.refl (at' bt) w
 have lt:=hT.lt
 have t3:(bits .and .i64 (wb T (idx T vm sd page 8)) want != 0)=true:=by simp[h3]
 have q1:(want == 1)=false:=by simp[isR] at h2;simp[h2]
 have q2:(want == 2)=false:=by simp[isR] at h2;simp[h2]
 have q4:(want == 4)=false:=by simp[isR] at h2;simp[h2]
 clear h3 h2
 have r8:=ba w #[U κ vm,U κ sd,U κ first,U κ second] 63
 replace hT:=hT.alloc (ω #[U κ vm,U κ sd,U κ first,U κ second] 63)
 replace h:=h.alloc (ω #[U κ vm,U κ sd,U κ first,U κ second] 63)
 replace f1:=f1.alloc (ω #[U κ vm,U κ sd,U κ first,U κ second] 63)
 have r13:=bq w (ω #[U κ vm,U κ sd,U κ first,U κ second] 63) #[U κ 0,U κ 0,U κ 0,β false,U κ 0] 50
 replace hT:=hT.alloc (ω #[U κ 0,U κ 0,U κ 0,β false,U κ 0] 50)
 replace r8:=r8.alloc (ω #[U κ 0,U κ 0,U κ 0,β false,U κ 0] 50)
 replace h:=h.alloc (ω #[U κ 0,U κ 0,U κ 0,β false,U κ 0] 50)
 replace f1:=f1.alloc (ω #[U κ 0,U κ 0,U κ 0,β false,U κ 0] 50)
 obtain ⟨c0x0,c0x1,c0x2,c0x3⟩:=cl r8
 have lt2:Hid (bt<w.heap.size):=lt
 clear lt
 go_enter Tryz.func83,Tryz.ntmps83
 go_wp2_with fail
 refine(lb _ _ _ _ _ _ _ _ hT hG hfo hmi).mono ?_
 rintro e v1 ⟨rfl,g1,hT1⟩
 clear c0x0 c0x1 c0x2 c0x3
 have lt:=lt2.out
 replace r8:=r8.keep g1 (show _≠_ by omega)
 replace r13:=r13.keep g1 (show _≠_ by omega)
 replace h:=h.keep g1 n1 n2
 replace f1:=f1.trans g1
 clear hT g1 lt
 rw[h1]
 obtain ⟨c1x0,c1x1,c1x2,c1x3⟩:=cl r8
 go_wp2_with fail
 refine(hs _ h).mono ?_
 rintro e v2 ⟨rfl,g2⟩
 clear c1x0 c1x1 c1x2 c1x3
 replace hT1:=hT1.keep g2 (fun h=>h)
 replace r8:=r8.keep g2 (fun h=>h)
 replace r13:=r13.keep g2 (fun h=>h)
 replace h:=h.keep g2 (fun h=>h) (fun h=>h)
 replace f1:=f1.trans (g2.mono (fun _ _ h=>h.elim))
 clear g2
 clear h hs
 have l5:Hid (bt<v2.heap.size∧w.heap.size+1<v2.heap.size):=⟨hT1.lt,r13.lt⟩
 have r17:=ba v2 #[U κ x.ft.k,U κ x.ft.s,U κ x.ft.l,β x.ft.wk,U κ x.ft.p] 50
 replace hT1:=hT1.alloc (ω #[U κ x.ft.k,U κ x.ft.s,U κ x.ft.l,β x.ft.wk,U κ x.ft.p] 50)
 replace r8:=r8.alloc (ω #[U κ x.ft.k,U κ x.ft.s,U κ x.ft.l,β x.ft.wk,U κ x.ft.p] 50)
 replace r13:=r13.alloc (ω #[U κ x.ft.k,U κ x.ft.s,U κ x.ft.l,β x.ft.wk,U κ x.ft.p] 50)
 replace f1:=f1.alloc (ω #[U κ x.ft.k,U κ x.ft.s,U κ x.ft.l,β x.ft.wk,U κ x.ft.p] 50)
 obtain ⟨c2x0,c2x1,c2x2,c2x3,c2x4⟩:=bl r17
 obtain ⟨c3x0,c3x1,c3x2,c3x3,c3x4⟩:=bl r13
 obtain ⟨z4x0,z4x1,z4x2,z4x3,z4x4⟩:=bz r13
 go_wp2_with fail
 go_region
 go_wp2_with fail
 refine bodyPost_ret (jt rfl rfl (r13.put5 _ _ _ _ _).drew rfl) rfl ?_
 exact ⟨rfl,(f1.put5 (Or.inl (by omega)) _ _ _ _ _).drew,hT1.keep ((Fr.refl (at' (w.heap.size+1)) _).put5 (Or.inr rfl) _ _ _ _ _).drew (show _≠_ by have:=lt2.out;omega)⟩
theorem rreach_cok (w:World) (p bf nf:Nat) (bs:List UInt8) (bt:Nat) (T:Nat→Ln) (fo mi vm sd first second page want ix:Int) (h:IsRef w p bf nf bs) (hT:gj w bt T fo mi) (hG:kh T) (hU:vl T) (hfo:0≤fo∧fo<1000000) (hmi:0≤mi∧mi<1000000) (n1:p≠bt) (n2:bf≠bt) (h1:ansB (idx T vm sd page 8)=true) (h3:bits .and .i64 (wb T (idx T vm sd page 8)) want≠0) (h2:isR want=false) (x:Res) (hx:cg bs nf first second page want=x) (hk:x.ft.k=0) :
  Calls pQ 83 #[π (some ⟨p,0,none⟩),π (some ⟨bt,0,none⟩),.agg #[U κ vm,U κ sd,U κ first,U κ second],U κ page,U κ want,U κ ix] w fun e w'=>e=ρ (τ #[U κ x.fr,.agg #[U κ x.ft.k,U κ x.ft.s,U κ x.ft.l,β x.ft.wk,U κ x.ft.p]])∧Fr (at' bt) w w'∧gj w' bt (mx T ix ⟨vm,sd,page,x.fr,x.ri⟩) (fo+lj (idx T vm sd page 8)) (mi+li (idx T vm sd page 8)):=by
 have hs:=fun w0 h0=>lr w0 p bf nf bs vm sd first second page want h0
 rw[hx] at hs
 have t4:(x.ft.k != 0)=false:=by simp[hk]
 clear hx hk
 have f1:=Fr.refl (at' bt) w
 have lt:=hT.lt
 have t3:(bits .and .i64 (wb T (idx T vm sd page 8)) want != 0)=true:=by simp[h3]
 have q1:(want == 1)=false:=by simp[isR] at h2;simp[h2]
 have q2:(want == 2)=false:=by simp[isR] at h2;simp[h2]
 have q4:(want == 4)=false:=by simp[isR] at h2;simp[h2]
 clear h3 h2
 have r8:=ba w #[U κ vm,U κ sd,U κ first,U κ second] 63
 replace hT:=hT.alloc (ω #[U κ vm,U κ sd,U κ first,U κ second] 63)
 replace h:=h.alloc (ω #[U κ vm,U κ sd,U κ first,U κ second] 63)
 replace f1:=f1.alloc (ω #[U κ vm,U κ sd,U κ first,U κ second] 63)
 have r13:=bq w (ω #[U κ vm,U κ sd,U κ first,U κ second] 63) #[U κ 0,U κ 0,U κ 0,β false,U κ 0] 50
 replace hT:=hT.alloc (ω #[U κ 0,U κ 0,U κ 0,β false,U κ 0] 50)
 replace r8:=r8.alloc (ω #[U κ 0,U κ 0,U κ 0,β false,U κ 0] 50)
 replace h:=h.alloc (ω #[U κ 0,U κ 0,U κ 0,β false,U κ 0] 50)
 replace f1:=f1.alloc (ω #[U κ 0,U κ 0,U κ 0,β false,U κ 0] 50)
 obtain ⟨c0x0,c0x1,c0x2,c0x3⟩:=cl r8
 have lt2:Hid (bt<w.heap.size):=lt
 clear lt
 go_enter Tryz.func83,Tryz.ntmps83
 go_wp2_with fail
 refine(lb _ _ _ _ _ _ _ _ hT hG hfo hmi).mono ?_
 rintro e v1 ⟨rfl,g1,hT1⟩
 clear c0x0 c0x1 c0x2 c0x3
 have lt:=lt2.out
 replace r8:=r8.keep g1 (show _≠_ by omega)
 replace r13:=r13.keep g1 (show _≠_ by omega)
 replace h:=h.keep g1 n1 n2
 replace f1:=f1.trans g1
 clear hT g1 lt
 rw[h1]
 obtain ⟨c1x0,c1x1,c1x2,c1x3⟩:=cl r8
 go_wp2_with fail
 refine(hs _ h).mono ?_
 rintro e v2 ⟨rfl,g2⟩
 clear c1x0 c1x1 c1x2 c1x3
 replace hT1:=hT1.keep g2 (fun h=>h)
 replace r8:=r8.keep g2 (fun h=>h)
 replace r13:=r13.keep g2 (fun h=>h)
 replace h:=h.keep g2 (fun h=>h) (fun h=>h)
 replace f1:=f1.trans (g2.mono (fun _ _ h=>h.elim))
 clear g2
 clear h hs
 have l5:Hid (bt<v2.heap.size∧w.heap.size+1<v2.heap.size):=⟨hT1.lt,r13.lt⟩
 have r17:=ba v2 #[U κ x.ft.k,U κ x.ft.s,U κ x.ft.l,β x.ft.wk,U κ x.ft.p] 50
 replace hT1:=hT1.alloc (ω #[U κ x.ft.k,U κ x.ft.s,U κ x.ft.l,β x.ft.wk,U κ x.ft.p] 50)
 replace r8:=r8.alloc (ω #[U κ x.ft.k,U κ x.ft.s,U κ x.ft.l,β x.ft.wk,U κ x.ft.p] 50)
 replace r13:=r13.alloc (ω #[U κ x.ft.k,U κ x.ft.s,U κ x.ft.l,β x.ft.wk,U κ x.ft.p] 50)
 replace f1:=f1.alloc (ω #[U κ x.ft.k,U κ x.ft.s,U κ x.ft.l,β x.ft.wk,U κ x.ft.p] 50)
 obtain ⟨c2x0,c2x1,c2x2,c2x3,c2x4⟩:=bl r17
 obtain ⟨c3x0,c3x1,c3x2,c3x3⟩:=cl r8
 go_wp2_with fail
 refine(w9 _ _ _ _ _ hT1 hG hU ix ⟨vm,sd,page,x.fr,x.ri⟩).mono ?_
 rintro e v9 ⟨rfl,g9,hT9⟩
 clear c2x0 c2x1 c2x2 c2x3 c2x4 c3x0 c3x1 c3x2 c3x3
 have lt:=lt2.out
 have l6:=l5.out
 replace r13:=r13.keep g9 (show _≠_ by omega)
 replace r17:=r17.keep g9 (show _≠_ by omega)
 replace f1:=f1.trans g9
 clear hT1 g9 lt l6 r8
 obtain ⟨c4x0,c4x1,c4x2,c4x3,c4x4⟩:=bl r17
 obtain ⟨c5x0,c5x1,c5x2,c5x3,c5x4⟩:=bl r13
 obtain ⟨z6x0,z6x1,z6x2,z6x3,z6x4⟩:=bz r13
 go_wp2_with fail
 go_region
 go_wp2_with fail
 refine bodyPost_ret (jt rfl rfl (r13.put5 _ _ _ _ _).drew rfl) rfl ?_
 exact ⟨rfl,(f1.put5 (Or.inl (by omega)) _ _ _ _ _).drew,hT9.keep ((Fr.refl (at' (w.heap.size+1)) _).put5 (Or.inr rfl) _ _ _ _ _).drew (show _≠_ by have:=lt2.out;omega)⟩
theorem rreach_any (w:World) (p bf nf:Nat) (bs:List UInt8) (bt:Nat) (T:Nat→Ln) (fo mi vm sd first second page want ix:Int) (h:IsRef w p bf nf bs) (hT:gj w bt T fo mi) (hG:kh T) (hU:vl T) (hfo:0≤fo∧fo<1000000) (hmi:0≤mi∧mi<1000000) (n1:p≠bt) (n2:bf≠bt) :
  Calls pQ 83 #[π (some ⟨p,0,none⟩),π (some ⟨bt,0,none⟩),.agg #[U κ vm,U κ sd,U κ first,U κ second],U κ page,U κ want,U κ ix] w fun e w'=>e=ρ (τ #[U κ (j7 bs nf T vm sd first second page want),.agg #[U κ (go bs nf T vm sd first second page want).k,U κ (go bs nf T vm sd first second page want).s,U κ (go bs nf T vm sd first second page want).l,β (go bs nf T vm sd first second page want).wk,U κ (go bs nf T vm sd first second page want).p]])∧Fr (at' bt) w w'∧gj w' bt (l8 bs nf T vm sd first second page want ix) (fo+lj (idx T vm sd page 8)) (mi+li (idx T vm sd page 8)):=by
 have rv:hitR T vm sd page want=false→(j7 bs nf T vm sd first second page want=(cg bs nf first second page want).fr∧go bs nf T vm sd first second page want=(cg bs nf first second page want).ft ∧
   l8 bs nf T vm sd first second page want ix=if (cg bs nf first second page want).ft.k=0 then mx T ix ⟨vm,sd,page,(cg bs nf first second page want).fr,(cg bs nf first second page want).ri⟩ else T):=fun hh=>by
  unfold j7 go l8
  rw[if_neg (by simp[hh]),if_neg (by simp[hh]),if_neg (by simp[hh])]
  exact ⟨rfl,rfl,rfl⟩
 have hz:=nested_zero bs nf first second page want
 cases h1:ansB (idx T vm sd page 8) with
 | false =>
  obtain ⟨e1,e2,e3⟩:=rv (by simp[hitR,h1])
  rw[e1,e2,e3]
  by_cases hk:(cg bs nf first second page want).ft.k=0
  ·rw[if_pos hk];exact rreach_aok w p bf nf bs bt T fo mi vm sd first second page want ix h hT hG hU hfo hmi n1 n2 h1 _ rfl hk
  ·rw[if_neg hk,(hz hk).1];exact rreach_ano w p bf nf bs bt T fo mi vm sd first second page want ix h hT hG hU hfo hmi n1 n2 h1 _ rfl hk
 | true =>
  by_cases h3:bits .and .i64 (wb T (idx T vm sd page 8)) want=0
  ·obtain ⟨e1,e2,e3⟩:=rv (by simp[hitR,h3])
   rw[e1,e2,e3]
   by_cases hk:(cg bs nf first second page want).ft.k=0
   ·rw[if_pos hk];exact rreach_bok w p bf nf bs bt T fo mi vm sd first second page want ix h hT hG hU hfo hmi n1 n2 h1 h3 _ rfl hk
   ·rw[if_neg hk,(hz hk).1];exact rreach_bno w p bf nf bs bt T fo mi vm sd first second page want ix h hT hG hU hfo hmi n1 n2 h1 h3 _ rfl hk
  ·cases h2:isR want with
   | false =>
    obtain ⟨e1,e2,e3⟩:=rv (by simp[hitR,h2])
    rw[e1,e2,e3]
    by_cases hk:(cg bs nf first second page want).ft.k=0
    ·rw[if_pos hk];exact rreach_cok w p bf nf bs bt T fo mi vm sd first second page want ix h hT hG hU hfo hmi n1 n2 h1 h3 h2 _ rfl hk
    ·rw[if_neg hk,(hz hk).1];exact rreach_cno w p bf nf bs bt T fo mi vm sd first second page want ix h hT hG hU hfo hmi n1 n2 h1 h3 h2 _ rfl hk
   | true =>
    have hh:hitR T vm sd page want=true:=by simp[hitR,h1,h2,h3]
    have e1:j7 bs nf T vm sd first second page want=ansF T (idx T vm sd page 8):=by unfold j7;rw[if_pos hh]
    have e2:go bs nf T vm sd first second page want=f0:=by unfold go;rw[if_pos hh]
    have e3:l8 bs nf T vm sd first second page want ix=T:=by unfold l8;rw[if_pos hh]
    rw[e1,e2,e3]
    clear e1 e2 e3 hh rv hz
    rcases sj.1 h2 with rfl | rfl | rfl
    ·exact rreach_hit1 w p bf nf bs bt T fo mi vm sd first second page ix h hT hG hU hfo hmi n1 n2 h1 h3
    ·exact rreach_hit2 w p bf nf bs bt T fo mi vm sd first second page ix h hT hG hU hfo hmi n1 n2 h1 h3
    ·exact rreach_hit4 w p bf nf bs bt T fo mi vm sd first second page ix h hT hG hU hfo hmi n1 n2 h1 h3
end Go.Proofs.YtibhbjbpodlpiaaGreat
