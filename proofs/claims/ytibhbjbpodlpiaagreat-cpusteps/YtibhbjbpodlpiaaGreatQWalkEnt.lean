/-
  Contracts over the translation. No statement is proved here.
-/
import Derived.Deep.RegionHeld3
import Derived.Deep.CutRange
import Derived.Test.YtibhbjbpodlpiaaGreatQJJ
set_option maxRecDepth 100000
set_option maxHeartbeats 8000000
namespace Go.Proofs.YtibhbjbpodlpiaaGreat
open Go.RowKit
open Go.Value renaming int → U, bool → β, pointer → π, tuple → τ
open Go.IntKind renaming i64 → κ, u32 → μ
open Go.Obj renaming cells → ω
open Go.Ending renaming returned → ρ
open Go.Proofs.Tryz renaming prog → pQ
theorem dt (w:World) (o o':Obj) (cs:Array Value) (t:TypeId):Row (((w.alloc o).alloc o').alloc (.cells cs t)) (w.heap.size+1+1) cs t:=by
 have:=bq (w.alloc o) o' cs t
 rwa [tu] at this
theorem entry_low (w:World) (b p bf nf:Nat) (bs:List UInt8) (t st lv page:Int) (h:IsRam w p bf nf bs) (hS:gz w b p st lv page) (ht:t<0) :
  Calls pQ 182 #[π (some ⟨b,0,none⟩),U κ t] w fun e w'=>e=ρ (τ #[.agg #[β false,β false,U κ 0,U κ 0],.agg #[U κ 3,U κ st,U κ lv,β false,U κ page]])∧Fr bg w w':=by
 have g0:decide (t<0)=true:=decide_eq_true ht
 have hS0:Row w b _ _:=hS
 have rs:=(hS0.alloc (ω #[β false,β false,U κ 0,U κ 0] 77)).alloc (ω #[U κ 0,U κ 0,U κ 0,β false,U κ 0] 50)
 have h1:=(h.alloc (ω #[β false,β false,U κ 0,U κ 0] 77)).alloc (ω #[U κ 0,U κ 0,U κ 0,β false,U κ 0] 50)
 have r4:=(ba w #[β false,β false,U κ 0,U κ 0] 77).alloc (ω #[U κ 0,U κ 0,U κ 0,β false,U κ 0] 50)
 have r5:=bq w (ω #[β false,β false,U κ 0,U κ 0] 77) #[U κ 0,U κ 0,U κ 0,β false,U κ 0] 50
 have f1:=((Fr.refl bg w).alloc (ω #[β false,β false,U κ 0,U κ 0] 77)).alloc (ω #[U κ 0,U κ 0,U κ 0,β false,U κ 0] 50)
 obtain ⟨s0,s1,s2,s3⟩:=cl rs
 clear h hS hS0
 go_enter Tryz.func182,Tryz.ntmps182
 go_wp2_with fail
 refine(lg _ _ _ _ _ _ _ rs).mono ?_
 rintro e w3 ⟨rfl,f3⟩
 replace r4:=r4.keep f3 (fun h=>h)
 replace r5:=r5.keep f3 (fun h=>h)
 replace f1:=f1.trans f3
 clear f3 rs s0 s1 s2 s3 h1
 obtain ⟨d0,d1,d2,d3⟩:=cl r4
 obtain ⟨e0,e1,e2,e3,e4⟩:=bl r5
 obtain ⟨z0,z1,z2,z3⟩:=db r4
 obtain ⟨y0,y1,y2,y3,y4⟩:=bz r5
 go_wp2_with fail
 refine bodyPost_ret (lk rfl rfl ((r4.put4 _ _ _ _).past5 (by omega) _ _ _ _ _) rfl rfl ((r5.past4 (by omega) _ _ _ _).put5 _ _ _ _ _) rfl) rfl ?_
 exact ⟨rfl,(f1.put4 (Or.inl (Nat.le_refl _)) _ _ _ _).put5 (Or.inl (by omega)) _ _ _ _ _⟩
theorem entry_high (w:World) (b p bf nf:Nat) (bs:List UInt8) (t st lv page:Int) (h:IsRam w p bf nf bs) (hS:gz w b p st lv page) (h0:0≤t) (ht:(nf:Int)≤t) :
  Calls pQ 182 #[π (some ⟨b,0,none⟩),U κ t] w fun e w'=>e=ρ (τ #[.agg #[β false,β false,U κ 0,U κ 0],.agg #[U κ 3,U κ st,U κ lv,β false,U κ page]])∧Fr bg w w':=by
 have g0:decide (t<0)=false:=decide_eq_false (by omega)
 have g1:decide ((nf:Int)≤t)=true:=decide_eq_true ht
 clear h0 ht
 have hS0:Row w b _ _:=hS
 have rs:=(hS0.alloc (ω #[β false,β false,U κ 0,U κ 0] 77)).alloc (ω #[U κ 0,U κ 0,U κ 0,β false,U κ 0] 50)
 have h1:=(h.alloc (ω #[β false,β false,U κ 0,U κ 0] 77)).alloc (ω #[U κ 0,U κ 0,U κ 0,β false,U κ 0] 50)
 have r4:=(ba w #[β false,β false,U κ 0,U κ 0] 77).alloc (ω #[U κ 0,U κ 0,U κ 0,β false,U κ 0] 50)
 have r5:=bq w (ω #[β false,β false,U κ 0,U κ 0] 77) #[U κ 0,U κ 0,U κ 0,β false,U κ 0] 50
 have f1:=((Fr.refl bg w).alloc (ω #[β false,β false,U κ 0,U κ 0] 77)).alloc (ω #[U κ 0,U κ 0,U κ 0,β false,U κ 0] 50)
 obtain ⟨s0,s1,s2,s3⟩:=cl rs
 clear h hS hS0
 go_enter Tryz.func182,Tryz.ntmps182
 go_wp2_with fail
 refine(jg _ _ _ _ _ h1).mono ?_
 rintro e w1 ⟨rfl,rfl⟩
 go_wp2_with fail
 refine(lg _ _ _ _ _ _ _ rs).mono ?_
 rintro e w3 ⟨rfl,f3⟩
 replace r4:=r4.keep f3 (fun h=>h)
 replace r5:=r5.keep f3 (fun h=>h)
 replace f1:=f1.trans f3
 clear f3 rs s0 s1 s2 s3 h1
 obtain ⟨d0,d1,d2,d3⟩:=cl r4
 obtain ⟨e0,e1,e2,e3,e4⟩:=bl r5
 obtain ⟨z0,z1,z2,z3⟩:=db r4
 obtain ⟨y0,y1,y2,y3,y4⟩:=bz r5
 go_wp2_with fail
 refine bodyPost_ret (lk rfl rfl ((r4.put4 _ _ _ _).past5 (by omega) _ _ _ _ _) rfl rfl ((r5.past4 (by omega) _ _ _ _).put5 _ _ _ _ _) rfl) rfl ?_
 exact ⟨rfl,(f1.put4 (Or.inl (Nat.le_refl _)) _ _ _ _).put5 (Or.inl (by omega)) _ _ _ _ _⟩
theorem entry_miss0 (w:World) (b p bf nf:Nat) (bs:List UInt8) (T i:Nat) (st page:Int) (h:IsRam w p bf nf bs) (hS:gz w b p st 0 page) (ht:T<nf) (hi:np page 0=(i:Int)) (hi':i<32) (hu:kt ((cc bs T i:Nat):Int) 0=false) :
  Calls pQ 182 #[π (some ⟨b,0,none⟩),U κ (T:Int)] w fun e w'=>e=ρ (τ #[.agg #[β false,β false,U κ 0,U κ 0],.agg #[U κ 1,U κ st,U κ 0,β false,U κ page]])∧Fr bg w w':=by
 have g0:decide ((T:Int)<0)=false:=decide_eq_false (by omega)
 have g1:decide ((nf:Int)≤(T:Int))=false:=decide_eq_false (by omega)
 have hS0:Row w b _ _:=hS
 have hb:b≠w.heap.size+1+1:=by have:=hS0.lt;omega
 have rs:=(hS0.alloc (ω #[β false,β false,U κ 0,U κ 0] 77)).alloc (ω #[U κ 0,U κ 0,U κ 0,β false,U κ 0] 50)
 have h1:=(h.alloc (ω #[β false,β false,U κ 0,U κ 0] 77)).alloc (ω #[U κ 0,U κ 0,U κ 0,β false,U κ 0] 50)
 have r4:=(ba w #[β false,β false,U κ 0,U κ 0] 77).alloc (ω #[U κ 0,U κ 0,U κ 0,β false,U κ 0] 50)
 have r5:=bq w (ω #[β false,β false,U κ 0,U κ 0] 77) #[U κ 0,U κ 0,U κ 0,β false,U κ 0] 50
 have r6:=dt w (ω #[β false,β false,U κ 0,U κ 0] 77) (ω #[U κ 0,U κ 0,U κ 0,β false,U κ 0] 50) #[β false,β false,U κ 0,U κ 0] 77
 have f1:=((Fr.refl bg w).alloc (ω #[β false,β false,U κ 0,U κ 0] 77)).alloc (ω #[U κ 0,U κ 0,U κ 0,β false,U κ 0] 50)
 obtain ⟨s0,s1,s2,s3⟩:=cl rs
 obtain ⟨t0,t1,t2,t3⟩:=cl (rs.alloc (ω #[β false,β false,U κ 0,U κ 0] 77))
 have hI:=fun w0=>sx page 0 w0
 rw[hi] at hI
 have gA:=vp _ _ _ _ _ _ _ (IsRam.drew h1) ht hi'
 have gB:=vp _ _ _ _ _ _ _ ((IsRam.alloc h1 (ω #[β false,β false,U κ 0,U κ 0] 77)).drew) ht hi'
 clear h hS hS0
 cases hv:dv ((cc bs T i:Nat):Int) with
 | false =>
  clear hu
  cases hd:md ((cc bs T i:Nat):Int) with
  | false =>
   have he:de ((cc bs T i:Nat):Int)=20:=by unfold de;rw[hd];rfl
   clear hd
   go_enter Tryz.func182,Tryz.ntmps182
   go_wp2_with fail
   refine(jg _ _ _ _ _ h1).mono ?_
   rintro e w1 ⟨rfl,rfl⟩
   go_upto_region 3 with fail
   go_cut [6,7] from 8 (fun s6 s7 wx=>s7=U κ 20∧∃ g,s6=π (some ⟨g,0,none⟩)∧Fr bg w wx∧Row wx b #[π (some ⟨p,0,none⟩),U κ st,U κ 0,U κ page] 232∧Row wx w.heap.size #[β false,β false,U κ 0,U κ 0] 77∧Row wx (w.heap.size+1) #[U κ 0,U κ 0,U κ 0,β false,U κ 0] 50∧Row wx g #[β false,β (dl (cc bs T i)),U κ (dr (cc bs T i)),U κ (df (cc bs T i))] 77)
   case first =>
    go_region_held3 (fun w'=>w'.cell? ⟨b,0,none⟩=some (π (some ⟨p,0,none⟩))∧w'.cell? ⟨b,2,none⟩=some (U κ 0)∧w'.cell? ⟨b,3,none⟩=some (U κ page)) (first | with_reducible exact ⟨s0,s2,s3⟩ | with_reducible exact ⟨t0,t2,t3⟩ | with_reducible exact ⟨x0,x2,x3⟩ | go_keep) (first
     | (go_at_call 186;refine(hI _).mono ?_;rintro e w1 ⟨rfl,rfl⟩)
     | (go_at_call 185;refine gA.mono ?_;rintro e w2 ⟨rfl,f2⟩;rw[hv,he];replace f2:=f2.undrew;obtain ⟨x0,x1,x2,x3⟩:=cl (rs.keep f2 (fun h=>h));clear s0 s1 s2 s3;replace rs:=(rs.keep f2 (fun h=>h)).alloc (ω #[β false,β (dl (cc bs T i)),U κ (dr (cc bs T i)),U κ (df (cc bs T i))] 77);replace r4:=(r4.keep f2 (fun h=>h)).alloc (ω #[β false,β (dl (cc bs T i)),U κ (dr (cc bs T i)),U κ (df (cc bs T i))] 77);replace r5:=(r5.keep f2 (fun h=>h)).alloc (ω #[β false,β (dl (cc bs T i)),U κ (dr (cc bs T i)),U κ (df (cc bs T i))] 77);replace r6:=ba w2 #[β false,β (dl (cc bs T i)),U κ (dr (cc bs T i)),U κ (df (cc bs T i))] 77;replace f1:=(f1.trans f2).alloc (ω #[β false,β (dl (cc bs T i)),U κ (dr (cc bs T i)),U κ (df (cc bs T i))] 77);clear f2 t0 t1 t2 t3;obtain ⟨t0,t1,t2,t3⟩:=cl rs;obtain ⟨s0,s1,s2,s3⟩:=cl ((rs).drew))
     | (go_at_call 185;refine gB.mono ?_;rintro e w2 ⟨rfl,f2⟩;rw[hv,he];replace f2:=f2.undrew;have q6:=r6.keep f2 (fun h=>h);obtain ⟨y0,y1,y2,y3⟩:=cl q6;obtain ⟨z0,z1,z2,z3⟩:=db q6;obtain ⟨x0,x1,x2,x3⟩:=cl ((rs.alloc (ω #[β false,β false,U κ 0,U κ 0] 77)).keep f2 (fun h=>h));replace rs:=((rs.alloc (ω #[β false,β false,U κ 0,U κ 0] 77)).keep f2 (fun h=>h)).past4 (b':=w.heap.size+1+1) hb (β false) (β (dl (cc bs T i))) (U κ (dr (cc bs T i))) (U κ (df (cc bs T i)));replace r4:=((r4.alloc (ω #[β false,β false,U κ 0,U κ 0] 77)).keep f2 (fun h=>h)).past4 (b':=w.heap.size+1+1) (by omega) (β false) (β (dl (cc bs T i))) (U κ (dr (cc bs T i))) (U κ (df (cc bs T i)));replace r5:=((r5.alloc (ω #[β false,β false,U κ 0,U κ 0] 77)).keep f2 (fun h=>h)).past4 (b':=w.heap.size+1+1) (by omega) (β false) (β (dl (cc bs T i))) (U κ (dr (cc bs T i))) (U κ (df (cc bs T i)));replace r6:=q6.put4 (β false) (β (dl (cc bs T i))) (U κ (dr (cc bs T i))) (U κ (df (cc bs T i)));replace f1:=((f1.alloc (ω #[β false,β false,U κ 0,U κ 0] 77)).trans f2).put4 (b:=w.heap.size+1+1) (Or.inl (by omega)) (β false) (β (dl (cc bs T i))) (U κ (dr (cc bs T i))) (U κ (df (cc bs T i)));clear f2 q6 s0 s1 s2 s3 t0 t1 t2 t3;unfold put4 at rs;obtain ⟨s0,s1,s2,s3⟩:=cl rs;obtain ⟨t0,t1,t2,t3⟩:=cl rs))
    all_goals (go_wp2_with fail;go_meet;exact ⟨rfl,_,rfl,f1,rs,r4,r5,r6⟩)
   case rest =>
   clear s0 s1 s2 s3 t0 t1 t2 t3 rs r4 r5 r6 f1 hI gA gB h1
   obtain ⟨rfl,g,rfl,f1,rs,r4,r5,r6⟩:=hcut
   obtain ⟨s0,s1,s2,s3⟩:=cl rs
   obtain ⟨c0,c1,c2,c3⟩:=cl r6
   go_wp2_with fail
   go_quiet (fail)
   replace rs:=rs.keep (bo _ nq) (fun h=>h)
   replace r4:=r4.keep (bo _ nq) (fun h=>h)
   replace r5:=r5.keep (bo _ nq) (fun h=>h)
   replace r6:=r6.keep (bo _ nq) (fun h=>h)
   replace f1:=f1.trans (bo _ nq)
   clear s0 s1 s2 s3 c0 c1 c2 c3
   (go_wp2_with fail)
   refine(lg _ _ _ _ _ _ _ rs).mono ?_
   rintro e w3 ⟨rfl,f3⟩
   replace r4:=r4.keep f3 (fun h=>h)
   replace r5:=r5.keep f3 (fun h=>h)
   replace f1:=f1.trans f3
   clear f3 rs r6
   obtain ⟨d0,d1,d2,d3⟩:=cl r4
   obtain ⟨e0,e1,e2,e3,e4⟩:=bl r5
   obtain ⟨z0,z1,z2,z3⟩:=db r4
   obtain ⟨y0,y1,y2,y3,y4⟩:=bz r5
   (go_wp2_with fail)
   refine bodyPost_ret (lk rfl rfl ((r4.put4 _ _ _ _).past5 (by omega) _ _ _ _ _) rfl rfl ((r5.past4 (by omega) _ _ _ _).put5 _ _ _ _ _) rfl) rfl ?_
   exact ⟨rfl,(f1.put4 (Or.inl (Nat.le_refl _)) _ _ _ _).put5 (Or.inl (by omega)) _ _ _ _ _⟩
  | true =>
   have he:de ((cc bs T i:Nat):Int)=0:=by unfold de;rw[hd];rfl
   clear hd
   go_enter Tryz.func182,Tryz.ntmps182
   go_wp2_with fail
   refine(jg _ _ _ _ _ h1).mono ?_
   rintro e w1 ⟨rfl,rfl⟩
   go_upto_region 3 with fail
   go_cut [6,7] from 8 (fun s6 s7 wx=>s7=U κ 0∧∃ g,s6=π (some ⟨g,0,none⟩)∧Fr bg w wx∧Row wx b #[π (some ⟨p,0,none⟩),U κ st,U κ 0,U κ page] 232∧Row wx w.heap.size #[β false,β false,U κ 0,U κ 0] 77∧Row wx (w.heap.size+1) #[U κ 0,U κ 0,U κ 0,β false,U κ 0] 50∧Row wx g #[β false,β (dl (cc bs T i)),U κ (dr (cc bs T i)),U κ (df (cc bs T i))] 77)
   case first =>
    go_region_held3 (fun w'=>w'.cell? ⟨b,0,none⟩=some (π (some ⟨p,0,none⟩))∧w'.cell? ⟨b,2,none⟩=some (U κ 0)∧w'.cell? ⟨b,3,none⟩=some (U κ page)) (first | with_reducible exact ⟨s0,s2,s3⟩ | with_reducible exact ⟨t0,t2,t3⟩ | with_reducible exact ⟨x0,x2,x3⟩ | go_keep) (first
     | (go_at_call 186;refine(hI _).mono ?_;rintro e w1 ⟨rfl,rfl⟩)
     | (go_at_call 185;refine gA.mono ?_;rintro e w2 ⟨rfl,f2⟩;rw[hv,he];replace f2:=f2.undrew;obtain ⟨x0,x1,x2,x3⟩:=cl (rs.keep f2 (fun h=>h));clear s0 s1 s2 s3;replace rs:=(rs.keep f2 (fun h=>h)).alloc (ω #[β false,β (dl (cc bs T i)),U κ (dr (cc bs T i)),U κ (df (cc bs T i))] 77);replace r4:=(r4.keep f2 (fun h=>h)).alloc (ω #[β false,β (dl (cc bs T i)),U κ (dr (cc bs T i)),U κ (df (cc bs T i))] 77);replace r5:=(r5.keep f2 (fun h=>h)).alloc (ω #[β false,β (dl (cc bs T i)),U κ (dr (cc bs T i)),U κ (df (cc bs T i))] 77);replace r6:=ba w2 #[β false,β (dl (cc bs T i)),U κ (dr (cc bs T i)),U κ (df (cc bs T i))] 77;replace f1:=(f1.trans f2).alloc (ω #[β false,β (dl (cc bs T i)),U κ (dr (cc bs T i)),U κ (df (cc bs T i))] 77);clear f2 t0 t1 t2 t3;obtain ⟨t0,t1,t2,t3⟩:=cl rs;obtain ⟨s0,s1,s2,s3⟩:=cl ((rs).drew))
     | (go_at_call 185;refine gB.mono ?_;rintro e w2 ⟨rfl,f2⟩;rw[hv,he];replace f2:=f2.undrew;have q6:=r6.keep f2 (fun h=>h);obtain ⟨y0,y1,y2,y3⟩:=cl q6;obtain ⟨z0,z1,z2,z3⟩:=db q6;obtain ⟨x0,x1,x2,x3⟩:=cl ((rs.alloc (ω #[β false,β false,U κ 0,U κ 0] 77)).keep f2 (fun h=>h));replace rs:=((rs.alloc (ω #[β false,β false,U κ 0,U κ 0] 77)).keep f2 (fun h=>h)).past4 (b':=w.heap.size+1+1) hb (β false) (β (dl (cc bs T i))) (U κ (dr (cc bs T i))) (U κ (df (cc bs T i)));replace r4:=((r4.alloc (ω #[β false,β false,U κ 0,U κ 0] 77)).keep f2 (fun h=>h)).past4 (b':=w.heap.size+1+1) (by omega) (β false) (β (dl (cc bs T i))) (U κ (dr (cc bs T i))) (U κ (df (cc bs T i)));replace r5:=((r5.alloc (ω #[β false,β false,U κ 0,U κ 0] 77)).keep f2 (fun h=>h)).past4 (b':=w.heap.size+1+1) (by omega) (β false) (β (dl (cc bs T i))) (U κ (dr (cc bs T i))) (U κ (df (cc bs T i)));replace r6:=q6.put4 (β false) (β (dl (cc bs T i))) (U κ (dr (cc bs T i))) (U κ (df (cc bs T i)));replace f1:=((f1.alloc (ω #[β false,β false,U κ 0,U κ 0] 77)).trans f2).put4 (b:=w.heap.size+1+1) (Or.inl (by omega)) (β false) (β (dl (cc bs T i))) (U κ (dr (cc bs T i))) (U κ (df (cc bs T i)));clear f2 q6 s0 s1 s2 s3 t0 t1 t2 t3;unfold put4 at rs;obtain ⟨s0,s1,s2,s3⟩:=cl rs;obtain ⟨t0,t1,t2,t3⟩:=cl rs))
    all_goals (go_wp2_with fail;go_meet;exact ⟨rfl,_,rfl,f1,rs,r4,r5,r6⟩)
   case rest =>
   clear s0 s1 s2 s3 t0 t1 t2 t3 rs r4 r5 r6 f1 hI gA gB h1
   obtain ⟨rfl,g,rfl,f1,rs,r4,r5,r6⟩:=hcut
   obtain ⟨s0,s1,s2,s3⟩:=cl rs
   obtain ⟨c0,c1,c2,c3⟩:=cl r6
   go_wp2_with fail
   go_quiet (fail)
   replace rs:=rs.keep (bo _ nq) (fun h=>h)
   replace r4:=r4.keep (bo _ nq) (fun h=>h)
   replace r5:=r5.keep (bo _ nq) (fun h=>h)
   replace r6:=r6.keep (bo _ nq) (fun h=>h)
   replace f1:=f1.trans (bo _ nq)
   clear s0 s1 s2 s3 c0 c1 c2 c3
   (go_wp2_with fail)
   refine(lg _ _ _ _ _ _ _ rs).mono ?_
   rintro e w3 ⟨rfl,f3⟩
   replace r4:=r4.keep f3 (fun h=>h)
   replace r5:=r5.keep f3 (fun h=>h)
   replace f1:=f1.trans f3
   clear f3 rs r6
   obtain ⟨d0,d1,d2,d3⟩:=cl r4
   obtain ⟨e0,e1,e2,e3,e4⟩:=bl r5
   obtain ⟨z0,z1,z2,z3⟩:=db r4
   obtain ⟨y0,y1,y2,y3,y4⟩:=bz r5
   (go_wp2_with fail)
   refine bodyPost_ret (lk rfl rfl ((r4.put4 _ _ _ _).past5 (by omega) _ _ _ _ _) rfl rfl ((r5.past4 (by omega) _ _ _ _).put5 _ _ _ _ _) rfl) rfl ?_
   exact ⟨rfl,(f1.put4 (Or.inl (Nat.le_refl _)) _ _ _ _).put5 (Or.inl (by omega)) _ _ _ _ _⟩
 | true =>
  have he:=de_ok hv
  have hl:dl ((cc bs T i:Nat):Int)=true:=by simpa [kt,hv] using hu
  clear hu
  go_enter Tryz.func182,Tryz.ntmps182
  go_wp2_with fail
  refine(jg _ _ _ _ _ h1).mono ?_
  rintro e w1 ⟨rfl,rfl⟩
  go_upto_region 3 with fail
  go_cut [6,7] from 8 (fun s6 s7 wx=>s7=U κ 0∧∃ g,s6=π (some ⟨g,0,none⟩)∧Fr bg w wx∧Row wx b #[π (some ⟨p,0,none⟩),U κ st,U κ 0,U κ page] 232∧Row wx w.heap.size #[β false,β false,U κ 0,U κ 0] 77∧Row wx (w.heap.size+1) #[U κ 0,U κ 0,U κ 0,β false,U κ 0] 50∧Row wx g #[β true,β true,U κ (dr (cc bs T i)),U κ (df (cc bs T i))] 77)
  case first =>
   go_region_held3 (fun w'=>w'.cell? ⟨b,0,none⟩=some (π (some ⟨p,0,none⟩))∧w'.cell? ⟨b,2,none⟩=some (U κ 0)∧w'.cell? ⟨b,3,none⟩=some (U κ page)) (first | with_reducible exact ⟨s0,s2,s3⟩ | with_reducible exact ⟨t0,t2,t3⟩ | with_reducible exact ⟨x0,x2,x3⟩ | go_keep) (first
    | (go_at_call 186;refine(hI _).mono ?_;rintro e w1 ⟨rfl,rfl⟩)
    | (go_at_call 185;refine gA.mono ?_;rintro e w2 ⟨rfl,f2⟩;rw[hv,he,hl];replace f2:=f2.undrew;obtain ⟨x0,x1,x2,x3⟩:=cl (rs.keep f2 (fun h=>h));clear s0 s1 s2 s3;replace rs:=(rs.keep f2 (fun h=>h)).alloc (ω #[β true,β true,U κ (dr (cc bs T i)),U κ (df (cc bs T i))] 77);replace r4:=(r4.keep f2 (fun h=>h)).alloc (ω #[β true,β true,U κ (dr (cc bs T i)),U κ (df (cc bs T i))] 77);replace r5:=(r5.keep f2 (fun h=>h)).alloc (ω #[β true,β true,U κ (dr (cc bs T i)),U κ (df (cc bs T i))] 77);replace r6:=ba w2 #[β true,β true,U κ (dr (cc bs T i)),U κ (df (cc bs T i))] 77;replace f1:=(f1.trans f2).alloc (ω #[β true,β true,U κ (dr (cc bs T i)),U κ (df (cc bs T i))] 77);clear f2 t0 t1 t2 t3;obtain ⟨t0,t1,t2,t3⟩:=cl rs;obtain ⟨s0,s1,s2,s3⟩:=cl ((rs).drew))
    | (go_at_call 185;refine gB.mono ?_;rintro e w2 ⟨rfl,f2⟩;rw[hv,he,hl];replace f2:=f2.undrew;have q6:=r6.keep f2 (fun h=>h);obtain ⟨y0,y1,y2,y3⟩:=cl q6;obtain ⟨z0,z1,z2,z3⟩:=db q6;obtain ⟨x0,x1,x2,x3⟩:=cl ((rs.alloc (ω #[β false,β false,U κ 0,U κ 0] 77)).keep f2 (fun h=>h));replace rs:=((rs.alloc (ω #[β false,β false,U κ 0,U κ 0] 77)).keep f2 (fun h=>h)).past4 (b':=w.heap.size+1+1) hb (β true) (β true) (U κ (dr (cc bs T i))) (U κ (df (cc bs T i)));replace r4:=((r4.alloc (ω #[β false,β false,U κ 0,U κ 0] 77)).keep f2 (fun h=>h)).past4 (b':=w.heap.size+1+1) (by omega) (β true) (β true) (U κ (dr (cc bs T i))) (U κ (df (cc bs T i)));replace r5:=((r5.alloc (ω #[β false,β false,U κ 0,U κ 0] 77)).keep f2 (fun h=>h)).past4 (b':=w.heap.size+1+1) (by omega) (β true) (β true) (U κ (dr (cc bs T i))) (U κ (df (cc bs T i)));replace r6:=q6.put4 (β true) (β true) (U κ (dr (cc bs T i))) (U κ (df (cc bs T i)));replace f1:=((f1.alloc (ω #[β false,β false,U κ 0,U κ 0] 77)).trans f2).put4 (b:=w.heap.size+1+1) (Or.inl (by omega)) (β true) (β true) (U κ (dr (cc bs T i))) (U κ (df (cc bs T i)));clear f2 q6 s0 s1 s2 s3 t0 t1 t2 t3;unfold put4 at rs;obtain ⟨s0,s1,s2,s3⟩:=cl rs;obtain ⟨t0,t1,t2,t3⟩:=cl rs))
   all_goals (go_wp2_with fail;go_meet;exact ⟨rfl,_,rfl,f1,rs,r4,r5,r6⟩)
  case rest =>
  clear s0 s1 s2 s3 t0 t1 t2 t3 rs r4 r5 r6 f1 hI gA gB h1
  obtain ⟨rfl,g,rfl,f1,rs,r4,r5,r6⟩:=hcut
  obtain ⟨s0,s1,s2,s3⟩:=cl rs
  obtain ⟨c0,c1,c2,c3⟩:=cl r6
  go_wp2_with fail
  go_quiet (fail)
  replace rs:=rs.keep (bo _ nq) (fun h=>h)
  replace r4:=r4.keep (bo _ nq) (fun h=>h)
  replace r5:=r5.keep (bo _ nq) (fun h=>h)
  replace r6:=r6.keep (bo _ nq) (fun h=>h)
  replace f1:=f1.trans (bo _ nq)
  clear s0 s1 s2 s3 c0 c1 c2 c3
  (go_wp2_with fail)
  refine(lg _ _ _ _ _ _ _ rs).mono ?_
  rintro e w3 ⟨rfl,f3⟩
  replace r4:=r4.keep f3 (fun h=>h)
  replace r5:=r5.keep f3 (fun h=>h)
  replace f1:=f1.trans f3
  clear f3 rs r6
  obtain ⟨d0,d1,d2,d3⟩:=cl r4
  obtain ⟨e0,e1,e2,e3,e4⟩:=bl r5
  obtain ⟨z0,z1,z2,z3⟩:=db r4
  obtain ⟨y0,y1,y2,y3,y4⟩:=bz r5
  (go_wp2_with fail)
  refine bodyPost_ret (lk rfl rfl ((r4.put4 _ _ _ _).past5 (by omega) _ _ _ _ _) rfl rfl ((r5.past4 (by omega) _ _ _ _).put5 _ _ _ _ _) rfl) rfl ?_
  exact ⟨rfl,(f1.put4 (Or.inl (Nat.le_refl _)) _ _ _ _).put5 (Or.inl (by omega)) _ _ _ _ _⟩
theorem entry_ok0 (w:World) (b p bf nf:Nat) (bs:List UInt8) (T i:Nat) (st page:Int) (h:IsRam w p bf nf bs) (hS:gz w b p st 0 page) (ht:T<nf) (hi:np page 0=(i:Int)) (hi':i<32) (hu:kt ((cc bs T i:Nat):Int) 0=true) :
  Calls pQ 182 #[π (some ⟨b,0,none⟩),U κ (T:Int)] w fun e w'=>e=ρ (τ #[.agg #[β true,β (decide ((0:Int)=1)),U κ (dr (cc bs T i)),U κ (df (cc bs T i))],.agg #[U κ 0,U κ 0,U κ 0,β false,U κ 0]])∧Fr bg w w':=by
 have g0:decide ((T:Int)<0)=false:=decide_eq_false (by omega)
 have g1:decide ((nf:Int)≤(T:Int))=false:=decide_eq_false (by omega)
 have hS0:Row w b _ _:=hS
 have hb:b≠w.heap.size+1+1:=by have:=hS0.lt;omega
 have rs:=(hS0.alloc (ω #[β false,β false,U κ 0,U κ 0] 77)).alloc (ω #[U κ 0,U κ 0,U κ 0,β false,U κ 0] 50)
 have h1:=(h.alloc (ω #[β false,β false,U κ 0,U κ 0] 77)).alloc (ω #[U κ 0,U κ 0,U κ 0,β false,U κ 0] 50)
 have r4:=(ba w #[β false,β false,U κ 0,U κ 0] 77).alloc (ω #[U κ 0,U κ 0,U κ 0,β false,U κ 0] 50)
 have r5:=bq w (ω #[β false,β false,U κ 0,U κ 0] 77) #[U κ 0,U κ 0,U κ 0,β false,U κ 0] 50
 have r6:=dt w (ω #[β false,β false,U κ 0,U κ 0] 77) (ω #[U κ 0,U κ 0,U κ 0,β false,U κ 0] 50) #[β false,β false,U κ 0,U κ 0] 77
 have f1:=((Fr.refl bg w).alloc (ω #[β false,β false,U κ 0,U κ 0] 77)).alloc (ω #[U κ 0,U κ 0,U κ 0,β false,U κ 0] 50)
 obtain ⟨s0,s1,s2,s3⟩:=cl rs
 obtain ⟨t0,t1,t2,t3⟩:=cl (rs.alloc (ω #[β false,β false,U κ 0,U κ 0] 77))
 have hI:=fun w0=>sx page 0 w0
 rw[hi] at hI
 have gA:=vp _ _ _ _ _ _ _ (IsRam.drew h1) ht hi'
 have gB:=vp _ _ _ _ _ _ _ ((IsRam.alloc h1 (ω #[β false,β false,U κ 0,U κ 0] 77)).drew) ht hi'
 clear h hS hS0
 obtain ⟨hv,hl⟩:dv ((cc bs T i:Nat):Int)=true∧dl ((cc bs T i:Nat):Int)=false:=by simpa [kt] using hu
 have he:=de_ok hv
 clear hu
 go_enter Tryz.func182,Tryz.ntmps182
 go_wp2_with fail
 refine(jg _ _ _ _ _ h1).mono ?_
 rintro e w1 ⟨rfl,rfl⟩
 go_upto_region 3 with fail
 go_cut [6,7] from 8 (fun s6 s7 wx=>s7=U κ 0∧∃ g,s6=π (some ⟨g,0,none⟩)∧Fr bg w wx∧Row wx b #[π (some ⟨p,0,none⟩),U κ st,U κ 0,U κ page] 232∧Row wx w.heap.size #[β false,β false,U κ 0,U κ 0] 77∧Row wx (w.heap.size+1) #[U κ 0,U κ 0,U κ 0,β false,U κ 0] 50∧Row wx g #[β true,β false,U κ (dr (cc bs T i)),U κ (df (cc bs T i))] 77)
 case first =>
  go_region_held3 (fun w'=>w'.cell? ⟨b,0,none⟩=some (π (some ⟨p,0,none⟩))∧w'.cell? ⟨b,2,none⟩=some (U κ 0)∧w'.cell? ⟨b,3,none⟩=some (U κ page)) (first | with_reducible exact ⟨s0,s2,s3⟩ | with_reducible exact ⟨t0,t2,t3⟩ | with_reducible exact ⟨x0,x2,x3⟩ | go_keep) (first
   | (go_at_call 186;refine(hI _).mono ?_;rintro e w1 ⟨rfl,rfl⟩)
   | (go_at_call 185;refine gA.mono ?_;rintro e w2 ⟨rfl,f2⟩;rw[hv,he,hl];replace f2:=f2.undrew;obtain ⟨x0,x1,x2,x3⟩:=cl (rs.keep f2 (fun h=>h));clear s0 s1 s2 s3;replace rs:=(rs.keep f2 (fun h=>h)).alloc (ω #[β true,β false,U κ (dr (cc bs T i)),U κ (df (cc bs T i))] 77);replace r4:=(r4.keep f2 (fun h=>h)).alloc (ω #[β true,β false,U κ (dr (cc bs T i)),U κ (df (cc bs T i))] 77);replace r5:=(r5.keep f2 (fun h=>h)).alloc (ω #[β true,β false,U κ (dr (cc bs T i)),U κ (df (cc bs T i))] 77);replace r6:=ba w2 #[β true,β false,U κ (dr (cc bs T i)),U κ (df (cc bs T i))] 77;replace f1:=(f1.trans f2).alloc (ω #[β true,β false,U κ (dr (cc bs T i)),U κ (df (cc bs T i))] 77);clear f2 t0 t1 t2 t3;obtain ⟨t0,t1,t2,t3⟩:=cl rs;obtain ⟨s0,s1,s2,s3⟩:=cl ((rs).drew))
   | (go_at_call 185;refine gB.mono ?_;rintro e w2 ⟨rfl,f2⟩;rw[hv,he,hl];replace f2:=f2.undrew;have q6:=r6.keep f2 (fun h=>h);obtain ⟨y0,y1,y2,y3⟩:=cl q6;obtain ⟨z0,z1,z2,z3⟩:=db q6;obtain ⟨x0,x1,x2,x3⟩:=cl ((rs.alloc (ω #[β false,β false,U κ 0,U κ 0] 77)).keep f2 (fun h=>h));replace rs:=((rs.alloc (ω #[β false,β false,U κ 0,U κ 0] 77)).keep f2 (fun h=>h)).past4 (b':=w.heap.size+1+1) hb (β true) (β false) (U κ (dr (cc bs T i))) (U κ (df (cc bs T i)));replace r4:=((r4.alloc (ω #[β false,β false,U κ 0,U κ 0] 77)).keep f2 (fun h=>h)).past4 (b':=w.heap.size+1+1) (by omega) (β true) (β false) (U κ (dr (cc bs T i))) (U κ (df (cc bs T i)));replace r5:=((r5.alloc (ω #[β false,β false,U κ 0,U κ 0] 77)).keep f2 (fun h=>h)).past4 (b':=w.heap.size+1+1) (by omega) (β true) (β false) (U κ (dr (cc bs T i))) (U κ (df (cc bs T i)));replace r6:=q6.put4 (β true) (β false) (U κ (dr (cc bs T i))) (U κ (df (cc bs T i)));replace f1:=((f1.alloc (ω #[β false,β false,U κ 0,U κ 0] 77)).trans f2).put4 (b:=w.heap.size+1+1) (Or.inl (by omega)) (β true) (β false) (U κ (dr (cc bs T i))) (U κ (df (cc bs T i)));clear f2 q6 s0 s1 s2 s3 t0 t1 t2 t3;unfold put4 at rs;obtain ⟨s0,s1,s2,s3⟩:=cl rs;obtain ⟨t0,t1,t2,t3⟩:=cl rs))
  all_goals (go_wp2_with fail;go_meet;exact ⟨rfl,_,rfl,f1,rs,r4,r5,r6⟩)
 case rest =>
 clear s0 s1 s2 s3 t0 t1 t2 t3 rs r4 r5 r6 f1 hI gA gB h1
 obtain ⟨rfl,g,rfl,f1,rs,r4,r5,r6⟩:=hcut
 obtain ⟨s0,s1,s2,s3⟩:=cl rs
 obtain ⟨c0,c1,c2,c3⟩:=cl r6
 go_wp2_with fail
 go_quiet (fail)
 replace rs:=rs.keep (bo _ nq) (fun h=>h)
 replace r4:=r4.keep (bo _ nq) (fun h=>h)
 replace r5:=r5.keep (bo _ nq) (fun h=>h)
 replace r6:=r6.keep (bo _ nq) (fun h=>h)
 replace f1:=f1.trans (bo _ nq)
 clear s0 s1 s2 s3 c0 c1 c2 c3
 obtain ⟨c0,c1,c2,c3⟩:=cl r6
 obtain ⟨d0,d1,d2,d3⟩:=cl r4
 obtain ⟨e0,e1,e2,e3,e4⟩:=bl r5
 obtain ⟨z0,z1,z2,z3⟩:=db r4
 obtain ⟨y0,y1,y2,y3,y4⟩:=bz r5
 (go_wp2_with fail)
 refine bodyPost_ret (lk rfl rfl ((r4.put4 _ _ _ _).past5 (by omega) _ _ _ _ _) rfl rfl ((r5.past4 (by omega) _ _ _ _).put5 _ _ _ _ _) rfl) rfl ?_
 exact ⟨rfl,(f1.put4 (Or.inl (Nat.le_refl _)) _ _ _ _).put5 (Or.inl (by omega)) _ _ _ _ _⟩
theorem entry_miss1 (w:World) (b p bf nf:Nat) (bs:List UInt8) (T i:Nat) (st page:Int) (h:IsRam w p bf nf bs) (hS:gz w b p st 1 page) (ht:T<nf) (hi:np page 1=(i:Int)) (hi':i<32) (hu:kt ((cc bs T i:Nat):Int) 1=false) :
  Calls pQ 182 #[π (some ⟨b,0,none⟩),U κ (T:Int)] w fun e w'=>e=ρ (τ #[.agg #[β false,β false,U κ 0,U κ 0],.agg #[U κ 1,U κ st,U κ 1,β false,U κ page]])∧Fr bg w w':=by
 have g0:decide ((T:Int)<0)=false:=decide_eq_false (by omega)
 have g1:decide ((nf:Int)≤(T:Int))=false:=decide_eq_false (by omega)
 have hS0:Row w b _ _:=hS
 have hb:b≠w.heap.size+1+1:=by have:=hS0.lt;omega
 have rs:=(hS0.alloc (ω #[β false,β false,U κ 0,U κ 0] 77)).alloc (ω #[U κ 0,U κ 0,U κ 0,β false,U κ 0] 50)
 have h1:=(h.alloc (ω #[β false,β false,U κ 0,U κ 0] 77)).alloc (ω #[U κ 0,U κ 0,U κ 0,β false,U κ 0] 50)
 have r4:=(ba w #[β false,β false,U κ 0,U κ 0] 77).alloc (ω #[U κ 0,U κ 0,U κ 0,β false,U κ 0] 50)
 have r5:=bq w (ω #[β false,β false,U κ 0,U κ 0] 77) #[U κ 0,U κ 0,U κ 0,β false,U κ 0] 50
 have r6:=dt w (ω #[β false,β false,U κ 0,U κ 0] 77) (ω #[U κ 0,U κ 0,U κ 0,β false,U κ 0] 50) #[β false,β false,U κ 0,U κ 0] 77
 have f1:=((Fr.refl bg w).alloc (ω #[β false,β false,U κ 0,U κ 0] 77)).alloc (ω #[U κ 0,U κ 0,U κ 0,β false,U κ 0] 50)
 obtain ⟨s0,s1,s2,s3⟩:=cl rs
 obtain ⟨t0,t1,t2,t3⟩:=cl (rs.alloc (ω #[β false,β false,U κ 0,U κ 0] 77))
 have hI:=fun w0=>sx page 1 w0
 rw[hi] at hI
 have gA:=vp _ _ _ _ _ _ _ (IsRam.drew h1) ht hi'
 have gB:=vp _ _ _ _ _ _ _ ((IsRam.alloc h1 (ω #[β false,β false,U κ 0,U κ 0] 77)).drew) ht hi'
 clear h hS hS0
 cases hv:dv ((cc bs T i:Nat):Int) with
 | false =>
  clear hu
  cases hd:md ((cc bs T i:Nat):Int) with
  | false =>
   have he:de ((cc bs T i:Nat):Int)=20:=by unfold de;rw[hd];rfl
   clear hd
   go_enter Tryz.func182,Tryz.ntmps182
   go_wp2_with fail
   refine(jg _ _ _ _ _ h1).mono ?_
   rintro e w1 ⟨rfl,rfl⟩
   go_upto_region 3 with fail
   go_cut [6,7] from 8 (fun s6 s7 wx=>s7=U κ 20∧∃ g,s6=π (some ⟨g,0,none⟩)∧Fr bg w wx∧Row wx b #[π (some ⟨p,0,none⟩),U κ st,U κ 1,U κ page] 232∧Row wx w.heap.size #[β false,β false,U κ 0,U κ 0] 77∧Row wx (w.heap.size+1) #[U κ 0,U κ 0,U κ 0,β false,U κ 0] 50∧Row wx g #[β false,β (dl (cc bs T i)),U κ (dr (cc bs T i)),U κ (df (cc bs T i))] 77)
   case first =>
    go_region_held3 (fun w'=>w'.cell? ⟨b,0,none⟩=some (π (some ⟨p,0,none⟩))∧w'.cell? ⟨b,2,none⟩=some (U κ 1)∧w'.cell? ⟨b,3,none⟩=some (U κ page)) (first | with_reducible exact ⟨s0,s2,s3⟩ | with_reducible exact ⟨t0,t2,t3⟩ | with_reducible exact ⟨x0,x2,x3⟩ | go_keep) (first
     | (go_at_call 186;refine(hI _).mono ?_;rintro e w1 ⟨rfl,rfl⟩)
     | (go_at_call 185;refine gA.mono ?_;rintro e w2 ⟨rfl,f2⟩;rw[hv,he];replace f2:=f2.undrew;obtain ⟨x0,x1,x2,x3⟩:=cl (rs.keep f2 (fun h=>h));clear s0 s1 s2 s3;replace rs:=(rs.keep f2 (fun h=>h)).alloc (ω #[β false,β (dl (cc bs T i)),U κ (dr (cc bs T i)),U κ (df (cc bs T i))] 77);replace r4:=(r4.keep f2 (fun h=>h)).alloc (ω #[β false,β (dl (cc bs T i)),U κ (dr (cc bs T i)),U κ (df (cc bs T i))] 77);replace r5:=(r5.keep f2 (fun h=>h)).alloc (ω #[β false,β (dl (cc bs T i)),U κ (dr (cc bs T i)),U κ (df (cc bs T i))] 77);replace r6:=ba w2 #[β false,β (dl (cc bs T i)),U κ (dr (cc bs T i)),U κ (df (cc bs T i))] 77;replace f1:=(f1.trans f2).alloc (ω #[β false,β (dl (cc bs T i)),U κ (dr (cc bs T i)),U κ (df (cc bs T i))] 77);clear f2 t0 t1 t2 t3;obtain ⟨t0,t1,t2,t3⟩:=cl rs;obtain ⟨s0,s1,s2,s3⟩:=cl ((rs).drew))
     | (go_at_call 185;refine gB.mono ?_;rintro e w2 ⟨rfl,f2⟩;rw[hv,he];replace f2:=f2.undrew;have q6:=r6.keep f2 (fun h=>h);obtain ⟨y0,y1,y2,y3⟩:=cl q6;obtain ⟨z0,z1,z2,z3⟩:=db q6;obtain ⟨x0,x1,x2,x3⟩:=cl ((rs.alloc (ω #[β false,β false,U κ 0,U κ 0] 77)).keep f2 (fun h=>h));replace rs:=((rs.alloc (ω #[β false,β false,U κ 0,U κ 0] 77)).keep f2 (fun h=>h)).past4 (b':=w.heap.size+1+1) hb (β false) (β (dl (cc bs T i))) (U κ (dr (cc bs T i))) (U κ (df (cc bs T i)));replace r4:=((r4.alloc (ω #[β false,β false,U κ 0,U κ 0] 77)).keep f2 (fun h=>h)).past4 (b':=w.heap.size+1+1) (by omega) (β false) (β (dl (cc bs T i))) (U κ (dr (cc bs T i))) (U κ (df (cc bs T i)));replace r5:=((r5.alloc (ω #[β false,β false,U κ 0,U κ 0] 77)).keep f2 (fun h=>h)).past4 (b':=w.heap.size+1+1) (by omega) (β false) (β (dl (cc bs T i))) (U κ (dr (cc bs T i))) (U κ (df (cc bs T i)));replace r6:=q6.put4 (β false) (β (dl (cc bs T i))) (U κ (dr (cc bs T i))) (U κ (df (cc bs T i)));replace f1:=((f1.alloc (ω #[β false,β false,U κ 0,U κ 0] 77)).trans f2).put4 (b:=w.heap.size+1+1) (Or.inl (by omega)) (β false) (β (dl (cc bs T i))) (U κ (dr (cc bs T i))) (U κ (df (cc bs T i)));clear f2 q6 s0 s1 s2 s3 t0 t1 t2 t3;unfold put4 at rs;obtain ⟨s0,s1,s2,s3⟩:=cl rs;obtain ⟨t0,t1,t2,t3⟩:=cl rs))
    all_goals (go_wp2_with fail;go_meet;exact ⟨rfl,_,rfl,f1,rs,r4,r5,r6⟩)
   case rest =>
   clear s0 s1 s2 s3 t0 t1 t2 t3 rs r4 r5 r6 f1 hI gA gB h1
   obtain ⟨rfl,g,rfl,f1,rs,r4,r5,r6⟩:=hcut
   obtain ⟨s0,s1,s2,s3⟩:=cl rs
   obtain ⟨c0,c1,c2,c3⟩:=cl r6
   go_wp2_with fail
   go_quiet (fail)
   replace rs:=rs.keep (bo _ nq) (fun h=>h)
   replace r4:=r4.keep (bo _ nq) (fun h=>h)
   replace r5:=r5.keep (bo _ nq) (fun h=>h)
   replace r6:=r6.keep (bo _ nq) (fun h=>h)
   replace f1:=f1.trans (bo _ nq)
   clear s0 s1 s2 s3 c0 c1 c2 c3
   (go_wp2_with fail)
   refine(lg _ _ _ _ _ _ _ rs).mono ?_
   rintro e w3 ⟨rfl,f3⟩
   replace r4:=r4.keep f3 (fun h=>h)
   replace r5:=r5.keep f3 (fun h=>h)
   replace f1:=f1.trans f3
   clear f3 rs r6
   obtain ⟨d0,d1,d2,d3⟩:=cl r4
   obtain ⟨e0,e1,e2,e3,e4⟩:=bl r5
   obtain ⟨z0,z1,z2,z3⟩:=db r4
   obtain ⟨y0,y1,y2,y3,y4⟩:=bz r5
   (go_wp2_with fail)
   refine bodyPost_ret (lk rfl rfl ((r4.put4 _ _ _ _).past5 (by omega) _ _ _ _ _) rfl rfl ((r5.past4 (by omega) _ _ _ _).put5 _ _ _ _ _) rfl) rfl ?_
   exact ⟨rfl,(f1.put4 (Or.inl (Nat.le_refl _)) _ _ _ _).put5 (Or.inl (by omega)) _ _ _ _ _⟩
  | true =>
   have he:de ((cc bs T i:Nat):Int)=0:=by unfold de;rw[hd];rfl
   clear hd
   go_enter Tryz.func182,Tryz.ntmps182
   go_wp2_with fail
   refine(jg _ _ _ _ _ h1).mono ?_
   rintro e w1 ⟨rfl,rfl⟩
   go_upto_region 3 with fail
   go_cut [6,7] from 8 (fun s6 s7 wx=>s7=U κ 0∧∃ g,s6=π (some ⟨g,0,none⟩)∧Fr bg w wx∧Row wx b #[π (some ⟨p,0,none⟩),U κ st,U κ 1,U κ page] 232∧Row wx w.heap.size #[β false,β false,U κ 0,U κ 0] 77∧Row wx (w.heap.size+1) #[U κ 0,U κ 0,U κ 0,β false,U κ 0] 50∧Row wx g #[β false,β (dl (cc bs T i)),U κ (dr (cc bs T i)),U κ (df (cc bs T i))] 77)
   case first =>
    go_region_held3 (fun w'=>w'.cell? ⟨b,0,none⟩=some (π (some ⟨p,0,none⟩))∧w'.cell? ⟨b,2,none⟩=some (U κ 1)∧w'.cell? ⟨b,3,none⟩=some (U κ page)) (first | with_reducible exact ⟨s0,s2,s3⟩ | with_reducible exact ⟨t0,t2,t3⟩ | with_reducible exact ⟨x0,x2,x3⟩ | go_keep) (first
     | (go_at_call 186;refine(hI _).mono ?_;rintro e w1 ⟨rfl,rfl⟩)
     | (go_at_call 185;refine gA.mono ?_;rintro e w2 ⟨rfl,f2⟩;rw[hv,he];replace f2:=f2.undrew;obtain ⟨x0,x1,x2,x3⟩:=cl (rs.keep f2 (fun h=>h));clear s0 s1 s2 s3;replace rs:=(rs.keep f2 (fun h=>h)).alloc (ω #[β false,β (dl (cc bs T i)),U κ (dr (cc bs T i)),U κ (df (cc bs T i))] 77);replace r4:=(r4.keep f2 (fun h=>h)).alloc (ω #[β false,β (dl (cc bs T i)),U κ (dr (cc bs T i)),U κ (df (cc bs T i))] 77);replace r5:=(r5.keep f2 (fun h=>h)).alloc (ω #[β false,β (dl (cc bs T i)),U κ (dr (cc bs T i)),U κ (df (cc bs T i))] 77);replace r6:=ba w2 #[β false,β (dl (cc bs T i)),U κ (dr (cc bs T i)),U κ (df (cc bs T i))] 77;replace f1:=(f1.trans f2).alloc (ω #[β false,β (dl (cc bs T i)),U κ (dr (cc bs T i)),U κ (df (cc bs T i))] 77);clear f2 t0 t1 t2 t3;obtain ⟨t0,t1,t2,t3⟩:=cl rs;obtain ⟨s0,s1,s2,s3⟩:=cl ((rs).drew))
     | (go_at_call 185;refine gB.mono ?_;rintro e w2 ⟨rfl,f2⟩;rw[hv,he];replace f2:=f2.undrew;have q6:=r6.keep f2 (fun h=>h);obtain ⟨y0,y1,y2,y3⟩:=cl q6;obtain ⟨z0,z1,z2,z3⟩:=db q6;obtain ⟨x0,x1,x2,x3⟩:=cl ((rs.alloc (ω #[β false,β false,U κ 0,U κ 0] 77)).keep f2 (fun h=>h));replace rs:=((rs.alloc (ω #[β false,β false,U κ 0,U κ 0] 77)).keep f2 (fun h=>h)).past4 (b':=w.heap.size+1+1) hb (β false) (β (dl (cc bs T i))) (U κ (dr (cc bs T i))) (U κ (df (cc bs T i)));replace r4:=((r4.alloc (ω #[β false,β false,U κ 0,U κ 0] 77)).keep f2 (fun h=>h)).past4 (b':=w.heap.size+1+1) (by omega) (β false) (β (dl (cc bs T i))) (U κ (dr (cc bs T i))) (U κ (df (cc bs T i)));replace r5:=((r5.alloc (ω #[β false,β false,U κ 0,U κ 0] 77)).keep f2 (fun h=>h)).past4 (b':=w.heap.size+1+1) (by omega) (β false) (β (dl (cc bs T i))) (U κ (dr (cc bs T i))) (U κ (df (cc bs T i)));replace r6:=q6.put4 (β false) (β (dl (cc bs T i))) (U κ (dr (cc bs T i))) (U κ (df (cc bs T i)));replace f1:=((f1.alloc (ω #[β false,β false,U κ 0,U κ 0] 77)).trans f2).put4 (b:=w.heap.size+1+1) (Or.inl (by omega)) (β false) (β (dl (cc bs T i))) (U κ (dr (cc bs T i))) (U κ (df (cc bs T i)));clear f2 q6 s0 s1 s2 s3 t0 t1 t2 t3;unfold put4 at rs;obtain ⟨s0,s1,s2,s3⟩:=cl rs;obtain ⟨t0,t1,t2,t3⟩:=cl rs))
    all_goals (go_wp2_with fail;go_meet;exact ⟨rfl,_,rfl,f1,rs,r4,r5,r6⟩)
   case rest =>
   clear s0 s1 s2 s3 t0 t1 t2 t3 rs r4 r5 r6 f1 hI gA gB h1
   obtain ⟨rfl,g,rfl,f1,rs,r4,r5,r6⟩:=hcut
   obtain ⟨s0,s1,s2,s3⟩:=cl rs
   obtain ⟨c0,c1,c2,c3⟩:=cl r6
   go_wp2_with fail
   go_quiet (fail)
   replace rs:=rs.keep (bo _ nq) (fun h=>h)
   replace r4:=r4.keep (bo _ nq) (fun h=>h)
   replace r5:=r5.keep (bo _ nq) (fun h=>h)
   replace r6:=r6.keep (bo _ nq) (fun h=>h)
   replace f1:=f1.trans (bo _ nq)
   clear s0 s1 s2 s3 c0 c1 c2 c3
   (go_wp2_with fail)
   refine(lg _ _ _ _ _ _ _ rs).mono ?_
   rintro e w3 ⟨rfl,f3⟩
   replace r4:=r4.keep f3 (fun h=>h)
   replace r5:=r5.keep f3 (fun h=>h)
   replace f1:=f1.trans f3
   clear f3 rs r6
   obtain ⟨d0,d1,d2,d3⟩:=cl r4
   obtain ⟨e0,e1,e2,e3,e4⟩:=bl r5
   obtain ⟨z0,z1,z2,z3⟩:=db r4
   obtain ⟨y0,y1,y2,y3,y4⟩:=bz r5
   (go_wp2_with fail)
   refine bodyPost_ret (lk rfl rfl ((r4.put4 _ _ _ _).past5 (by omega) _ _ _ _ _) rfl rfl ((r5.past4 (by omega) _ _ _ _).put5 _ _ _ _ _) rfl) rfl ?_
   exact ⟨rfl,(f1.put4 (Or.inl (Nat.le_refl _)) _ _ _ _).put5 (Or.inl (by omega)) _ _ _ _ _⟩
 | true =>
  have he:=de_ok hv
  have hl:dl ((cc bs T i:Nat):Int)=false:=by simpa [kt,hv] using hu
  clear hu
  go_enter Tryz.func182,Tryz.ntmps182
  go_wp2_with fail
  refine(jg _ _ _ _ _ h1).mono ?_
  rintro e w1 ⟨rfl,rfl⟩
  go_upto_region 3 with fail
  go_cut [6,7] from 8 (fun s6 s7 wx=>s7=U κ 0∧∃ g,s6=π (some ⟨g,0,none⟩)∧Fr bg w wx∧Row wx b #[π (some ⟨p,0,none⟩),U κ st,U κ 1,U κ page] 232∧Row wx w.heap.size #[β false,β false,U κ 0,U κ 0] 77∧Row wx (w.heap.size+1) #[U κ 0,U κ 0,U κ 0,β false,U κ 0] 50∧Row wx g #[β true,β false,U κ (dr (cc bs T i)),U κ (df (cc bs T i))] 77)
  case first =>
   go_region_held3 (fun w'=>w'.cell? ⟨b,0,none⟩=some (π (some ⟨p,0,none⟩))∧w'.cell? ⟨b,2,none⟩=some (U κ 1)∧w'.cell? ⟨b,3,none⟩=some (U κ page)) (first | with_reducible exact ⟨s0,s2,s3⟩ | with_reducible exact ⟨t0,t2,t3⟩ | with_reducible exact ⟨x0,x2,x3⟩ | go_keep) (first
    | (go_at_call 186;refine(hI _).mono ?_;rintro e w1 ⟨rfl,rfl⟩)
    | (go_at_call 185;refine gA.mono ?_;rintro e w2 ⟨rfl,f2⟩;rw[hv,he,hl];replace f2:=f2.undrew;obtain ⟨x0,x1,x2,x3⟩:=cl (rs.keep f2 (fun h=>h));clear s0 s1 s2 s3;replace rs:=(rs.keep f2 (fun h=>h)).alloc (ω #[β true,β false,U κ (dr (cc bs T i)),U κ (df (cc bs T i))] 77);replace r4:=(r4.keep f2 (fun h=>h)).alloc (ω #[β true,β false,U κ (dr (cc bs T i)),U κ (df (cc bs T i))] 77);replace r5:=(r5.keep f2 (fun h=>h)).alloc (ω #[β true,β false,U κ (dr (cc bs T i)),U κ (df (cc bs T i))] 77);replace r6:=ba w2 #[β true,β false,U κ (dr (cc bs T i)),U κ (df (cc bs T i))] 77;replace f1:=(f1.trans f2).alloc (ω #[β true,β false,U κ (dr (cc bs T i)),U κ (df (cc bs T i))] 77);clear f2 t0 t1 t2 t3;obtain ⟨t0,t1,t2,t3⟩:=cl rs;obtain ⟨s0,s1,s2,s3⟩:=cl ((rs).drew))
    | (go_at_call 185;refine gB.mono ?_;rintro e w2 ⟨rfl,f2⟩;rw[hv,he,hl];replace f2:=f2.undrew;have q6:=r6.keep f2 (fun h=>h);obtain ⟨y0,y1,y2,y3⟩:=cl q6;obtain ⟨z0,z1,z2,z3⟩:=db q6;obtain ⟨x0,x1,x2,x3⟩:=cl ((rs.alloc (ω #[β false,β false,U κ 0,U κ 0] 77)).keep f2 (fun h=>h));replace rs:=((rs.alloc (ω #[β false,β false,U κ 0,U κ 0] 77)).keep f2 (fun h=>h)).past4 (b':=w.heap.size+1+1) hb (β true) (β false) (U κ (dr (cc bs T i))) (U κ (df (cc bs T i)));replace r4:=((r4.alloc (ω #[β false,β false,U κ 0,U κ 0] 77)).keep f2 (fun h=>h)).past4 (b':=w.heap.size+1+1) (by omega) (β true) (β false) (U κ (dr (cc bs T i))) (U κ (df (cc bs T i)));replace r5:=((r5.alloc (ω #[β false,β false,U κ 0,U κ 0] 77)).keep f2 (fun h=>h)).past4 (b':=w.heap.size+1+1) (by omega) (β true) (β false) (U κ (dr (cc bs T i))) (U κ (df (cc bs T i)));replace r6:=q6.put4 (β true) (β false) (U κ (dr (cc bs T i))) (U κ (df (cc bs T i)));replace f1:=((f1.alloc (ω #[β false,β false,U κ 0,U κ 0] 77)).trans f2).put4 (b:=w.heap.size+1+1) (Or.inl (by omega)) (β true) (β false) (U κ (dr (cc bs T i))) (U κ (df (cc bs T i)));clear f2 q6 s0 s1 s2 s3 t0 t1 t2 t3;unfold put4 at rs;obtain ⟨s0,s1,s2,s3⟩:=cl rs;obtain ⟨t0,t1,t2,t3⟩:=cl rs))
   all_goals (go_wp2_with fail;go_meet;exact ⟨rfl,_,rfl,f1,rs,r4,r5,r6⟩)
  case rest =>
  clear s0 s1 s2 s3 t0 t1 t2 t3 rs r4 r5 r6 f1 hI gA gB h1
  obtain ⟨rfl,g,rfl,f1,rs,r4,r5,r6⟩:=hcut
  obtain ⟨s0,s1,s2,s3⟩:=cl rs
  obtain ⟨c0,c1,c2,c3⟩:=cl r6
  go_wp2_with fail
  go_quiet (fail)
  replace rs:=rs.keep (bo _ nq) (fun h=>h)
  replace r4:=r4.keep (bo _ nq) (fun h=>h)
  replace r5:=r5.keep (bo _ nq) (fun h=>h)
  replace r6:=r6.keep (bo _ nq) (fun h=>h)
  replace f1:=f1.trans (bo _ nq)
  clear s0 s1 s2 s3 c0 c1 c2 c3
  (go_wp2_with fail)
  refine(lg _ _ _ _ _ _ _ rs).mono ?_
  rintro e w3 ⟨rfl,f3⟩
  replace r4:=r4.keep f3 (fun h=>h)
  replace r5:=r5.keep f3 (fun h=>h)
  replace f1:=f1.trans f3
  clear f3 rs r6
  obtain ⟨d0,d1,d2,d3⟩:=cl r4
  obtain ⟨e0,e1,e2,e3,e4⟩:=bl r5
  obtain ⟨z0,z1,z2,z3⟩:=db r4
  obtain ⟨y0,y1,y2,y3,y4⟩:=bz r5
  (go_wp2_with fail)
  refine bodyPost_ret (lk rfl rfl ((r4.put4 _ _ _ _).past5 (by omega) _ _ _ _ _) rfl rfl ((r5.past4 (by omega) _ _ _ _).put5 _ _ _ _ _) rfl) rfl ?_
  exact ⟨rfl,(f1.put4 (Or.inl (Nat.le_refl _)) _ _ _ _).put5 (Or.inl (by omega)) _ _ _ _ _⟩
theorem entry_ok1 (w:World) (b p bf nf:Nat) (bs:List UInt8) (T i:Nat) (st page:Int) (h:IsRam w p bf nf bs) (hS:gz w b p st 1 page) (ht:T<nf) (hi:np page 1=(i:Int)) (hi':i<32) (hu:kt ((cc bs T i:Nat):Int) 1=true) :
  Calls pQ 182 #[π (some ⟨b,0,none⟩),U κ (T:Int)] w fun e w'=>e=ρ (τ #[.agg #[β true,β (decide ((1:Int)=1)),U κ (dr (cc bs T i)),U κ (df (cc bs T i))],.agg #[U κ 0,U κ 0,U κ 0,β false,U κ 0]])∧Fr bg w w':=by
 have g0:decide ((T:Int)<0)=false:=decide_eq_false (by omega)
 have g1:decide ((nf:Int)≤(T:Int))=false:=decide_eq_false (by omega)
 have hS0:Row w b _ _:=hS
 have hb:b≠w.heap.size+1+1:=by have:=hS0.lt;omega
 have rs:=(hS0.alloc (ω #[β false,β false,U κ 0,U κ 0] 77)).alloc (ω #[U κ 0,U κ 0,U κ 0,β false,U κ 0] 50)
 have h1:=(h.alloc (ω #[β false,β false,U κ 0,U κ 0] 77)).alloc (ω #[U κ 0,U κ 0,U κ 0,β false,U κ 0] 50)
 have r4:=(ba w #[β false,β false,U κ 0,U κ 0] 77).alloc (ω #[U κ 0,U κ 0,U κ 0,β false,U κ 0] 50)
 have r5:=bq w (ω #[β false,β false,U κ 0,U κ 0] 77) #[U κ 0,U κ 0,U κ 0,β false,U κ 0] 50
 have r6:=dt w (ω #[β false,β false,U κ 0,U κ 0] 77) (ω #[U κ 0,U κ 0,U κ 0,β false,U κ 0] 50) #[β false,β false,U κ 0,U κ 0] 77
 have f1:=((Fr.refl bg w).alloc (ω #[β false,β false,U κ 0,U κ 0] 77)).alloc (ω #[U κ 0,U κ 0,U κ 0,β false,U κ 0] 50)
 obtain ⟨s0,s1,s2,s3⟩:=cl rs
 obtain ⟨t0,t1,t2,t3⟩:=cl (rs.alloc (ω #[β false,β false,U κ 0,U κ 0] 77))
 have hI:=fun w0=>sx page 1 w0
 rw[hi] at hI
 have gA:=vp _ _ _ _ _ _ _ (IsRam.drew h1) ht hi'
 have gB:=vp _ _ _ _ _ _ _ ((IsRam.alloc h1 (ω #[β false,β false,U κ 0,U κ 0] 77)).drew) ht hi'
 clear h hS hS0
 obtain ⟨hv,hl⟩:dv ((cc bs T i:Nat):Int)=true∧dl ((cc bs T i:Nat):Int)=true:=by simpa [kt] using hu
 have he:=de_ok hv
 clear hu
 go_enter Tryz.func182,Tryz.ntmps182
 go_wp2_with fail
 refine(jg _ _ _ _ _ h1).mono ?_
 rintro e w1 ⟨rfl,rfl⟩
 go_upto_region 3 with fail
 go_cut [6,7] from 8 (fun s6 s7 wx=>s7=U κ 0∧∃ g,s6=π (some ⟨g,0,none⟩)∧Fr bg w wx∧Row wx b #[π (some ⟨p,0,none⟩),U κ st,U κ 1,U κ page] 232∧Row wx w.heap.size #[β false,β false,U κ 0,U κ 0] 77∧Row wx (w.heap.size+1) #[U κ 0,U κ 0,U κ 0,β false,U κ 0] 50∧Row wx g #[β true,β true,U κ (dr (cc bs T i)),U κ (df (cc bs T i))] 77)
 case first =>
  go_region_held3 (fun w'=>w'.cell? ⟨b,0,none⟩=some (π (some ⟨p,0,none⟩))∧w'.cell? ⟨b,2,none⟩=some (U κ 1)∧w'.cell? ⟨b,3,none⟩=some (U κ page)) (first | with_reducible exact ⟨s0,s2,s3⟩ | with_reducible exact ⟨t0,t2,t3⟩ | with_reducible exact ⟨x0,x2,x3⟩ | go_keep) (first
   | (go_at_call 186;refine(hI _).mono ?_;rintro e w1 ⟨rfl,rfl⟩)
   | (go_at_call 185;refine gA.mono ?_;rintro e w2 ⟨rfl,f2⟩;rw[hv,he,hl];replace f2:=f2.undrew;obtain ⟨x0,x1,x2,x3⟩:=cl (rs.keep f2 (fun h=>h));clear s0 s1 s2 s3;replace rs:=(rs.keep f2 (fun h=>h)).alloc (ω #[β true,β true,U κ (dr (cc bs T i)),U κ (df (cc bs T i))] 77);replace r4:=(r4.keep f2 (fun h=>h)).alloc (ω #[β true,β true,U κ (dr (cc bs T i)),U κ (df (cc bs T i))] 77);replace r5:=(r5.keep f2 (fun h=>h)).alloc (ω #[β true,β true,U κ (dr (cc bs T i)),U κ (df (cc bs T i))] 77);replace r6:=ba w2 #[β true,β true,U κ (dr (cc bs T i)),U κ (df (cc bs T i))] 77;replace f1:=(f1.trans f2).alloc (ω #[β true,β true,U κ (dr (cc bs T i)),U κ (df (cc bs T i))] 77);clear f2 t0 t1 t2 t3;obtain ⟨t0,t1,t2,t3⟩:=cl rs;obtain ⟨s0,s1,s2,s3⟩:=cl ((rs).drew))
   | (go_at_call 185;refine gB.mono ?_;rintro e w2 ⟨rfl,f2⟩;rw[hv,he,hl];replace f2:=f2.undrew;have q6:=r6.keep f2 (fun h=>h);obtain ⟨y0,y1,y2,y3⟩:=cl q6;obtain ⟨z0,z1,z2,z3⟩:=db q6;obtain ⟨x0,x1,x2,x3⟩:=cl ((rs.alloc (ω #[β false,β false,U κ 0,U κ 0] 77)).keep f2 (fun h=>h));replace rs:=((rs.alloc (ω #[β false,β false,U κ 0,U κ 0] 77)).keep f2 (fun h=>h)).past4 (b':=w.heap.size+1+1) hb (β true) (β true) (U κ (dr (cc bs T i))) (U κ (df (cc bs T i)));replace r4:=((r4.alloc (ω #[β false,β false,U κ 0,U κ 0] 77)).keep f2 (fun h=>h)).past4 (b':=w.heap.size+1+1) (by omega) (β true) (β true) (U κ (dr (cc bs T i))) (U κ (df (cc bs T i)));replace r5:=((r5.alloc (ω #[β false,β false,U κ 0,U κ 0] 77)).keep f2 (fun h=>h)).past4 (b':=w.heap.size+1+1) (by omega) (β true) (β true) (U κ (dr (cc bs T i))) (U κ (df (cc bs T i)));replace r6:=q6.put4 (β true) (β true) (U κ (dr (cc bs T i))) (U κ (df (cc bs T i)));replace f1:=((f1.alloc (ω #[β false,β false,U κ 0,U κ 0] 77)).trans f2).put4 (b:=w.heap.size+1+1) (Or.inl (by omega)) (β true) (β true) (U κ (dr (cc bs T i))) (U κ (df (cc bs T i)));clear f2 q6 s0 s1 s2 s3 t0 t1 t2 t3;unfold put4 at rs;obtain ⟨s0,s1,s2,s3⟩:=cl rs;obtain ⟨t0,t1,t2,t3⟩:=cl rs))
  all_goals (go_wp2_with fail;go_meet;exact ⟨rfl,_,rfl,f1,rs,r4,r5,r6⟩)
 case rest =>
 clear s0 s1 s2 s3 t0 t1 t2 t3 rs r4 r5 r6 f1 hI gA gB h1
 obtain ⟨rfl,g,rfl,f1,rs,r4,r5,r6⟩:=hcut
 obtain ⟨s0,s1,s2,s3⟩:=cl rs
 obtain ⟨c0,c1,c2,c3⟩:=cl r6
 go_wp2_with fail
 go_quiet (fail)
 replace rs:=rs.keep (bo _ nq) (fun h=>h)
 replace r4:=r4.keep (bo _ nq) (fun h=>h)
 replace r5:=r5.keep (bo _ nq) (fun h=>h)
 replace r6:=r6.keep (bo _ nq) (fun h=>h)
 replace f1:=f1.trans (bo _ nq)
 clear s0 s1 s2 s3 c0 c1 c2 c3
 obtain ⟨c0,c1,c2,c3⟩:=cl r6
 obtain ⟨d0,d1,d2,d3⟩:=cl r4
 obtain ⟨e0,e1,e2,e3,e4⟩:=bl r5
 obtain ⟨z0,z1,z2,z3⟩:=db r4
 obtain ⟨y0,y1,y2,y3,y4⟩:=bz r5
 (go_wp2_with fail)
 refine bodyPost_ret (lk rfl rfl ((r4.put4 _ _ _ _).past5 (by omega) _ _ _ _ _) rfl rfl ((r5.past4 (by omega) _ _ _ _).put5 _ _ _ _ _) rfl) rfl ?_
 exact ⟨rfl,(f1.put4 (Or.inl (Nat.le_refl _)) _ _ _ _).put5 (Or.inl (by omega)) _ _ _ _ _⟩
theorem entry_bad (w:World) (b p bf nf:Nat) (bs:List UInt8) (t st page lvl:Int) (h:IsRam w p bf nf bs) (hS:gz w b p st lvl page) (hp:isP page=true) (hl:lvl=0∨lvl=1) (hk:jq bs nf t page lvl≠0) :
  Calls pQ 182 #[π (some ⟨b,0,none⟩),U κ t] w fun e w'=>e=ρ (τ #[.agg #[β false,β false,U κ 0,U κ 0],.agg #[U κ (jq bs nf t page lvl),U κ st,U κ lvl,β false,U κ page]])∧Fr bg w w':=by
 rcases qy bs nf t page lvl with ⟨e,ho⟩ | ⟨e,_⟩ | ⟨e,ho,hu⟩
 ·rw[e]
  by_cases h0:t<0
  ·exact entry_low w b p bf nf bs t st lvl page h hS h0
  ·exact entry_high w b p bf nf bs t st lvl page h hS (by omega) (by omega)
 ·exact absurd e hk
 ·rw[e]
  obtain ⟨T,rfl⟩:=Int.eq_ofNat_of_zero_le (show 0≤t by omega)
  obtain ⟨i,hi,hi'⟩:=s8 hp hl
  rw[ew_half hi] at hu
  rcases hl with rfl | rfl
  ·exact entry_miss0 w b p bf nf bs T i st page h hS (by omega) hi hi' hu
  ·exact entry_miss1 w b p bf nf bs T i st page h hS (by omega) hi hi' hu
theorem wh (w:World) (b p bf nf:Nat) (bs:List UInt8) (t st page lvl:Int) (h:IsRam w p bf nf bs) (hS:gz w b p st lvl page) (hp:isP page=true) (hl:lvl=0∨lvl=1) (hk:jq bs nf t page lvl=0) :
  Calls pQ 182 #[π (some ⟨b,0,none⟩),U κ t] w fun e w'=>e=ρ (τ #[.agg #[β true,β (decide (lvl=1)),U κ (dr (ew bs t page lvl)),U κ (df (ew bs t page lvl))],.agg #[U κ 0,U κ 0,U κ 0,β false,U κ 0]])∧Fr bg w w':=by
 rcases qy bs nf t page lvl with ⟨e,ho⟩ | ⟨e,ho,hu⟩ | ⟨e,ho,hu⟩
 ·rw[e] at hk;exact absurd hk (by decide)
 ·obtain ⟨T,rfl⟩:=Int.eq_ofNat_of_zero_le (show 0≤t by omega)
  obtain ⟨i,hi,hi'⟩:=s8 hp hl
  rw[ew_half hi] at hu ⊢
  rcases hl with rfl | rfl
  ·exact entry_ok0 w b p bf nf bs T i st page h hS (by omega) hi hi' hu
  ·exact entry_ok1 w b p bf nf bs T i st page h hS (by omega) hi hi' hu
 ·rw[e] at hk;exact absurd hk (by decide)
end Go.Proofs.YtibhbjbpodlpiaaGreat
