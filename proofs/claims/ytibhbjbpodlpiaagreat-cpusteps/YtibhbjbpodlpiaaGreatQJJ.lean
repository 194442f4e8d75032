/-
  Contracts over the translation. No statement is proved here.
-/
import Derived.Test.YtibhbjbpodlpiaaGreatQJC
import Derived.Test.YtibhbjbpodlpiaaGreatQJI
set_option maxRecDepth 100000
set_option maxHeartbeats 8000000
namespace Go.Proofs.YtibhbjbpodlpiaaGreat
open Go.RowKit
open Go.Value renaming int → U, bool → β, pointer → π, tuple → τ
open Go.IntKind renaming i64 → κ, u32 → μ
open Go.Obj renaming cells → ω
open Go.Ending renaming returned → ρ
open Go.Proofs.Tryz renaming prog → pQ
theorem s8 {page lvl:Int} (hp:isP page=true) (hl:lvl=0∨lvl=1):∃ i:Nat,np page lvl=(i:Int)∧i<32:=by
 have h:=jp.1 hp
 rcases hl with rfl | rfl
 ·refine ⟨(page / 32).toNat,?_,by omega⟩
  unfold np;rw[if_neg (by omega),if_pos rfl];omega
 ·refine ⟨(page%32).toNat,?_,by omega⟩
  unfold np;rw[if_neg (by omega),if_neg (by omega),if_pos rfl];omega
theorem ew_half {bs:List UInt8} {t i:Nat} {page lvl:Int} (hi:np page lvl=(i:Int)):ew bs (t:Int) page lvl=((cc bs t i:Nat):Int):=by
 simp[ew,hi]
theorem dv_ok {x:Int} (h:dv x=true):md x=true:=by
 unfold dv at h
 cases hd:md x <;> simp_all
theorem de_ok {x:Int} (h:dv x=true):de x=0:=by unfold de;rw[dv_ok h];rfl
theorem rentry_low (w:World) (b:Nat) (t page lvl:Int) (ht:t<0) :
  Calls pQ 163 #[π (some ⟨b,0,none⟩),U κ t,U κ page,U κ lvl] w fun e w'=>e=ρ (τ #[.agg #[β false,β false,U κ 0,U κ 0],U κ 3])∧Fr bg w w':=by
 have g0:decide (t<0)=true:=decide_eq_true ht
 go_enter Tryz.func163,Tryz.ntmps163
 go_wp2_with fail
 refine bodyPost_ret (cw rfl rfl (ba _ _ _) rfl) rfl ?_
 exact ⟨rfl,(Fr.refl _ _).alloc _⟩
theorem rentry_high (w:World) (p bf nf:Nat) (bs:List UInt8) (t page lvl:Int) (h:IsRef w p bf nf bs) (h0:0≤t) (ht:(nf:Int)≤t) :
  Calls pQ 163 #[π (some ⟨p,0,none⟩),U κ t,U κ page,U κ lvl] w fun e w'=>e=ρ (τ #[.agg #[β false,β false,U κ 0,U κ 0],U κ 3])∧Fr bg w w':=by
 have g0:decide (t<0)=false:=decide_eq_false (by omega)
 have g1:decide ((nf:Int)≤t)=true:=decide_eq_true ht
 have h1:=h.keep ((Fr.refl bg w).alloc (ω #[β false,β false,U κ 0,U κ 0] 77)) (fun h=>h) (fun h=>h)
 clear h h0 ht
 go_enter Tryz.func163,Tryz.ntmps163
 go_wp2_with fail
 refine(gy _ _ _ _ _ h1).mono ?_
 rintro e w1 ⟨rfl,rfl⟩
 go_wp2_with fail
 refine bodyPost_ret (cw rfl rfl (ba _ _ _) rfl) rfl ?_
 exact ⟨rfl,(Fr.refl _ _).alloc _⟩
theorem rentry_miss0 (w:World) (p bf nf:Nat) (bs:List UInt8) (T i:Nat) (page:Int) (h:IsRef w p bf nf bs) (ht:T<nf) (hi:np page 0=(i:Int)) (hi':i<32) (hu:kt ((cc bs T i:Nat):Int) 0=false) :
  Calls pQ 163 #[π (some ⟨p,0,none⟩),U κ (T:Int),U κ page,U κ 0] w fun e w'=>e=ρ (τ #[.agg #[β false,β false,U κ 0,U κ 0],U κ 1])∧Fr bg w w':=by
 have g0:decide ((T:Int)<0)=false:=decide_eq_false (by omega)
 have g1:decide ((nf:Int)≤(T:Int))=false:=decide_eq_false (by omega)
 have h1:=h.keep ((Fr.refl bg w).alloc (ω #[β false,β false,U κ 0,U κ 0] 77)) (fun h=>h) (fun h=>h)
 have r8:=ba w #[β false,β false,U κ 0,U κ 0] 77
 clear h
 cases hv:dv ((cc bs T i:Nat):Int) with
 | false =>
  clear hu
  cases hd:md ((cc bs T i:Nat):Int) with
  | false =>
   have he:de ((cc bs T i:Nat):Int)=20:=by unfold de;rw[hd];rfl
   clear hd
   go_enter Tryz.func163,Tryz.ntmps163
   go_wp2_with fail
   refine(gy _ _ _ _ _ h1).mono ?_
   rintro e w1 ⟨rfl,rfl⟩
   go_wp2_with fail
   refine(kv _ _ _).mono ?_
   rintro e w1 ⟨rfl,rfl⟩
   rw[hi]
   go_wp2_with fail
   refine(py _ _ _ _ _ _ _ h1 ht hi').mono ?_
   rintro e w2 ⟨rfl,f2⟩
   rw[hv,he]
   replace r8:=(r8.keep f2 (fun h=>h)).alloc (ω #[β false,β (dl (cc bs T i)),U κ (dr (cc bs T i)),U κ (df (cc bs T i))] 77)
   have f3:=(((Fr.refl bg w).alloc (ω #[β false,β false,U κ 0,U κ 0] 77)).trans f2).alloc (ω #[β false,β (dl (cc bs T i)),U κ (dr (cc bs T i)),U κ (df (cc bs T i))] 77)
   obtain ⟨c0,c1,c2,c3⟩:=cl r8
   obtain ⟨z0,z1,z2,z3⟩:=dy r8
   clear f2 h1
   go_wp2_with fail
   refine bodyPost_ret (cw rfl rfl (jl r8) rfl) rfl ?_
   exact ⟨rfl,kg f3 (Or.inl (Nat.le_refl _))⟩
  | true =>
   have he:de ((cc bs T i:Nat):Int)=0:=by unfold de;rw[hd];rfl
   clear hd
   go_enter Tryz.func163,Tryz.ntmps163
   go_wp2_with fail
   refine(gy _ _ _ _ _ h1).mono ?_
   rintro e w1 ⟨rfl,rfl⟩
   go_wp2_with fail
   refine(kv _ _ _).mono ?_
   rintro e w1 ⟨rfl,rfl⟩
   rw[hi]
   go_wp2_with fail
   refine(py _ _ _ _ _ _ _ h1 ht hi').mono ?_
   rintro e w2 ⟨rfl,f2⟩
   rw[hv,he]
   replace r8:=(r8.keep f2 (fun h=>h)).alloc (ω #[β false,β (dl (cc bs T i)),U κ (dr (cc bs T i)),U κ (df (cc bs T i))] 77)
   have f3:=(((Fr.refl bg w).alloc (ω #[β false,β false,U κ 0,U κ 0] 77)).trans f2).alloc (ω #[β false,β (dl (cc bs T i)),U κ (dr (cc bs T i)),U κ (df (cc bs T i))] 77)
   obtain ⟨c0,c1,c2,c3⟩:=cl r8
   obtain ⟨z0,z1,z2,z3⟩:=dy r8
   clear f2 h1
   go_wp2_with fail
   refine bodyPost_ret (cw rfl rfl (jl r8) rfl) rfl ?_
   exact ⟨rfl,kg f3 (Or.inl (Nat.le_refl _))⟩
 | true =>
  have he:=de_ok hv
  have hl:dl ((cc bs T i:Nat):Int)=true:=by simpa [kt,hv] using hu
  clear hu
  go_enter Tryz.func163,Tryz.ntmps163
  go_wp2_with fail
  refine(gy _ _ _ _ _ h1).mono ?_
  rintro e w1 ⟨rfl,rfl⟩
  go_wp2_with fail
  refine(kv _ _ _).mono ?_
  rintro e w1 ⟨rfl,rfl⟩
  rw[hi]
  go_wp2_with fail
  refine(py _ _ _ _ _ _ _ h1 ht hi').mono ?_
  rintro e w2 ⟨rfl,f2⟩
  rw[hv,he,hl]
  replace r8:=(r8.keep f2 (fun h=>h)).alloc (ω #[β true,β true,U κ (dr (cc bs T i)),U κ (df (cc bs T i))] 77)
  have f3:=(((Fr.refl bg w).alloc (ω #[β false,β false,U κ 0,U κ 0] 77)).trans f2).alloc (ω #[β true,β true,U κ (dr (cc bs T i)),U κ (df (cc bs T i))] 77)
  obtain ⟨c0,c1,c2,c3⟩:=cl r8
  obtain ⟨z0,z1,z2,z3⟩:=dy r8
  clear f2 h1
  go_wp2_with fail
  refine bodyPost_ret (cw rfl rfl (jl r8) rfl) rfl ?_
  exact ⟨rfl,kg f3 (Or.inl (Nat.le_refl _))⟩
theorem rentry_ok0 (w:World) (p bf nf:Nat) (bs:List UInt8) (T i:Nat) (page:Int) (h:IsRef w p bf nf bs) (ht:T<nf) (hi:np page 0=(i:Int)) (hi':i<32) (hu:kt ((cc bs T i:Nat):Int) 0=true) :
  Calls pQ 163 #[π (some ⟨p,0,none⟩),U κ (T:Int),U κ page,U κ 0] w fun e w'=>e=ρ (τ #[.agg #[β true,β (decide ((0:Int)=1)),U κ (dr (cc bs T i)),U κ (df (cc bs T i))],U κ 0])∧Fr bg w w':=by
 have g0:decide ((T:Int)<0)=false:=decide_eq_false (by omega)
 have g1:decide ((nf:Int)≤(T:Int))=false:=decide_eq_false (by omega)
 have h1:=h.keep ((Fr.refl bg w).alloc (ω #[β false,β false,U κ 0,U κ 0] 77)) (fun h=>h) (fun h=>h)
 have r8:=ba w #[β false,β false,U κ 0,U κ 0] 77
 clear h
 obtain ⟨hv,hl⟩:dv ((cc bs T i:Nat):Int)=true∧dl ((cc bs T i:Nat):Int)=false:=by simpa [kt] using hu
 have he:=de_ok hv
 clear hu
 go_enter Tryz.func163,Tryz.ntmps163
 go_wp2_with fail
 refine(gy _ _ _ _ _ h1).mono ?_
 rintro e w1 ⟨rfl,rfl⟩
 go_wp2_with fail
 refine(kv _ _ _).mono ?_
 rintro e w1 ⟨rfl,rfl⟩
 rw[hi]
 go_wp2_with fail
 refine(py _ _ _ _ _ _ _ h1 ht hi').mono ?_
 rintro e w2 ⟨rfl,f2⟩
 rw[hv,he,hl]
 replace r8:=(r8.keep f2 (fun h=>h)).alloc (ω #[β true,β false,U κ (dr (cc bs T i)),U κ (df (cc bs T i))] 77)
 have f3:=(((Fr.refl bg w).alloc (ω #[β false,β false,U κ 0,U κ 0] 77)).trans f2).alloc (ω #[β true,β false,U κ (dr (cc bs T i)),U κ (df (cc bs T i))] 77)
 obtain ⟨c0,c1,c2,c3⟩:=cl r8
 obtain ⟨z0,z1,z2,z3⟩:=dy r8
 clear f2 h1
 go_wp2_with fail
 refine bodyPost_ret (cw rfl rfl (jl r8) rfl) rfl ?_
 exact ⟨rfl,kg f3 (Or.inl (Nat.le_refl _))⟩
theorem rentry_miss1 (w:World) (p bf nf:Nat) (bs:List UInt8) (T i:Nat) (page:Int) (h:IsRef w p bf nf bs) (ht:T<nf) (hi:np page 1=(i:Int)) (hi':i<32) (hu:kt ((cc bs T i:Nat):Int) 1=false) :
  Calls pQ 163 #[π (some ⟨p,0,none⟩),U κ (T:Int),U κ page,U κ 1] w fun e w'=>e=ρ (τ #[.agg #[β false,β false,U κ 0,U κ 0],U κ 1])∧Fr bg w w':=by
 have g0:decide ((T:Int)<0)=false:=decide_eq_false (by omega)
 have g1:decide ((nf:Int)≤(T:Int))=false:=decide_eq_false (by omega)
 have h1:=h.keep ((Fr.refl bg w).alloc (ω #[β false,β false,U κ 0,U κ 0] 77)) (fun h=>h) (fun h=>h)
 have r8:=ba w #[β false,β false,U κ 0,U κ 0] 77
 clear h
 cases hv:dv ((cc bs T i:Nat):Int) with
 | false =>
  clear hu
  cases hd:md ((cc bs T i:Nat):Int) with
  | false =>
   have he:de ((cc bs T i:Nat):Int)=20:=by unfold de;rw[hd];rfl
   clear hd
   go_enter Tryz.func163,Tryz.ntmps163
   go_wp2_with fail
   refine(gy _ _ _ _ _ h1).mono ?_
   rintro e w1 ⟨rfl,rfl⟩
   go_wp2_with fail
   refine(kv _ _ _).mono ?_
   rintro e w1 ⟨rfl,rfl⟩
   rw[hi]
   go_wp2_with fail
   refine(py _ _ _ _ _ _ _ h1 ht hi').mono ?_
   rintro e w2 ⟨rfl,f2⟩
   rw[hv,he]
   replace r8:=(r8.keep f2 (fun h=>h)).alloc (ω #[β false,β (dl (cc bs T i)),U κ (dr (cc bs T i)),U κ (df (cc bs T i))] 77)
   have f3:=(((Fr.refl bg w).alloc (ω #[β false,β false,U κ 0,U κ 0] 77)).trans f2).alloc (ω #[β false,β (dl (cc bs T i)),U κ (dr (cc bs T i)),U κ (df (cc bs T i))] 77)
   obtain ⟨c0,c1,c2,c3⟩:=cl r8
   obtain ⟨z0,z1,z2,z3⟩:=dy r8
   clear f2 h1
   go_wp2_with fail
   refine bodyPost_ret (cw rfl rfl (jl r8) rfl) rfl ?_
   exact ⟨rfl,kg f3 (Or.inl (Nat.le_refl _))⟩
  | true =>
   have he:de ((cc bs T i:Nat):Int)=0:=by unfold de;rw[hd];rfl
   clear hd
   go_enter Tryz.func163,Tryz.ntmps163
   go_wp2_with fail
   refine(gy _ _ _ _ _ h1).mono ?_
   rintro e w1 ⟨rfl,rfl⟩
   go_wp2_with fail
   refine(kv _ _ _).mono ?_
   rintro e w1 ⟨rfl,rfl⟩
   rw[hi]
   go_wp2_with fail
   refine(py _ _ _ _ _ _ _ h1 ht hi').mono ?_
   rintro e w2 ⟨rfl,f2⟩
   rw[hv,he]
   replace r8:=(r8.keep f2 (fun h=>h)).alloc (ω #[β false,β (dl (cc bs T i)),U κ (dr (cc bs T i)),U κ (df (cc bs T i))] 77)
   have f3:=(((Fr.refl bg w).alloc (ω #[β false,β false,U κ 0,U κ 0] 77)).trans f2).alloc (ω #[β false,β (dl (cc bs T i)),U κ (dr (cc bs T i)),U κ (df (cc bs T i))] 77)
   obtain ⟨c0,c1,c2,c3⟩:=cl r8
   obtain ⟨z0,z1,z2,z3⟩:=dy r8
   clear f2 h1
   go_wp2_with fail
   refine bodyPost_ret (cw rfl rfl (jl r8) rfl) rfl ?_
   exact ⟨rfl,kg f3 (Or.inl (Nat.le_refl _))⟩
 | true =>
  have he:=de_ok hv
  have hl:dl ((cc bs T i:Nat):Int)=false:=by simpa [kt,hv] using hu
  clear hu
  go_enter Tryz.func163,Tryz.ntmps163
  go_wp2_with fail
  refine(gy _ _ _ _ _ h1).mono ?_
  rintro e w1 ⟨rfl,rfl⟩
  go_wp2_with fail
  refine(kv _ _ _).mono ?_
  rintro e w1 ⟨rfl,rfl⟩
  rw[hi]
  go_wp2_with fail
  refine(py _ _ _ _ _ _ _ h1 ht hi').mono ?_
  rintro e w2 ⟨rfl,f2⟩
  rw[hv,he,hl]
  replace r8:=(r8.keep f2 (fun h=>h)).alloc (ω #[β true,β false,U κ (dr (cc bs T i)),U κ (df (cc bs T i))] 77)
  have f3:=(((Fr.refl bg w).alloc (ω #[β false,β false,U κ 0,U κ 0] 77)).trans f2).alloc (ω #[β true,β false,U κ (dr (cc bs T i)),U κ (df (cc bs T i))] 77)
  obtain ⟨c0,c1,c2,c3⟩:=cl r8
  obtain ⟨z0,z1,z2,z3⟩:=dy r8
  clear f2 h1
  go_wp2_with fail
  refine bodyPost_ret (cw rfl rfl (jl r8) rfl) rfl ?_
  exact ⟨rfl,kg f3 (Or.inl (Nat.le_refl _))⟩
theorem rentry_ok1 (w:World) (p bf nf:Nat) (bs:List UInt8) (T i:Nat) (page:Int) (h:IsRef w p bf nf bs) (ht:T<nf) (hi:np page 1=(i:Int)) (hi':i<32) (hu:kt ((cc bs T i:Nat):Int) 1=true) :
  Calls pQ 163 #[π (some ⟨p,0,none⟩),U κ (T:Int),U κ page,U κ 1] w fun e w'=>e=ρ (τ #[.agg #[β true,β (decide ((1:Int)=1)),U κ (dr (cc bs T i)),U κ (df (cc bs T i))],U κ 0])∧Fr bg w w':=by
 have g0:decide ((T:Int)<0)=false:=decide_eq_false (by omega)
 have g1:decide ((nf:Int)≤(T:Int))=false:=decide_eq_false (by omega)
 have h1:=h.keep ((Fr.refl bg w).alloc (ω #[β false,β false,U κ 0,U κ 0] 77)) (fun h=>h) (fun h=>h)
 have r8:=ba w #[β false,β false,U κ 0,U κ 0] 77
 clear h
 obtain ⟨hv,hl⟩:dv ((cc bs T i:Nat):Int)=true∧dl ((cc bs T i:Nat):Int)=true:=by simpa [kt] using hu
 have he:=de_ok hv
 clear hu
 go_enter Tryz.func163,Tryz.ntmps163
 go_wp2_with fail
 refine(gy _ _ _ _ _ h1).mono ?_
 rintro e w1 ⟨rfl,rfl⟩
 go_wp2_with fail
 refine(kv _ _ _).mono ?_
 rintro e w1 ⟨rfl,rfl⟩
 rw[hi]
 go_wp2_with fail
 refine(py _ _ _ _ _ _ _ h1 ht hi').mono ?_
 rintro e w2 ⟨rfl,f2⟩
 rw[hv,he,hl]
 replace r8:=(r8.keep f2 (fun h=>h)).alloc (ω #[β true,β true,U κ (dr (cc bs T i)),U κ (df (cc bs T i))] 77)
 have f3:=(((Fr.refl bg w).alloc (ω #[β false,β false,U κ 0,U κ 0] 77)).trans f2).alloc (ω #[β true,β true,U κ (dr (cc bs T i)),U κ (df (cc bs T i))] 77)
 obtain ⟨c0,c1,c2,c3⟩:=cl r8
 obtain ⟨z0,z1,z2,z3⟩:=dy r8
 clear f2 h1
 go_wp2_with fail
 refine bodyPost_ret (cw rfl rfl (jl r8) rfl) rfl ?_
 exact ⟨rfl,kg f3 (Or.inl (Nat.le_refl _))⟩
theorem ve (w:World) (p bf nf:Nat) (bs:List UInt8) (t page lvl:Int) (h:IsRef w p bf nf bs) (hp:isP page=true) (hl:lvl=0∨lvl=1) (hk:jq bs nf t page lvl≠0) :
  Calls pQ 163 #[π (some ⟨p,0,none⟩),U κ t,U κ page,U κ lvl] w fun e w'=>e=ρ (τ #[.agg #[β false,β false,U κ 0,U κ 0],U κ (jq bs nf t page lvl)])∧Fr bg w w':=by
 rcases qy bs nf t page lvl with ⟨e,ho⟩ | ⟨e,_⟩ | ⟨e,ho,hu⟩
 ·rw[e]
  by_cases h0:t<0
  ·exact rentry_low w p t page lvl h0
  ·exact rentry_high w p bf nf bs t page lvl h (by omega) (by omega)
 ·exact absurd e hk
 ·rw[e]
  obtain ⟨T,rfl⟩:=Int.eq_ofNat_of_zero_le (show 0≤t by omega)
  obtain ⟨i,hi,hi'⟩:=s8 hp hl
  rw[ew_half hi] at hu
  rcases hl with rfl | rfl
  ·exact rentry_miss0 w p bf nf bs T i page h (by omega) hi hi' hu
  ·exact rentry_miss1 w p bf nf bs T i page h (by omega) hi hi' hu
theorem ss (w:World) (p bf nf:Nat) (bs:List UInt8) (t page lvl:Int) (h:IsRef w p bf nf bs) (hp:isP page=true) (hl:lvl=0∨lvl=1) (hk:jq bs nf t page lvl=0) :
  Calls pQ 163 #[π (some ⟨p,0,none⟩),U κ t,U κ page,U κ lvl] w fun e w'=>e=ρ (τ #[.agg #[β true,β (decide (lvl=1)),U κ (dr (ew bs t page lvl)),U κ (df (ew bs t page lvl))],U κ 0])∧Fr bg w w':=by
 rcases qy bs nf t page lvl with ⟨e,ho⟩ | ⟨e,ho,hu⟩ | ⟨e,ho,hu⟩
 ·rw[e] at hk;exact absurd hk (by decide)
 ·obtain ⟨T,rfl⟩:=Int.eq_ofNat_of_zero_le (show 0≤t by omega)
  obtain ⟨i,hi,hi'⟩:=s8 hp hl
  rw[ew_half hi] at hu ⊢
  rcases hl with rfl | rfl
  ·exact rentry_ok0 w p bf nf bs T i page h (by omega) hi hi' hu
  ·exact rentry_ok1 w p bf nf bs T i page h (by omega) hi hi' hu
 ·rw[e] at hk;exact absurd hk (by decide)
end Go.Proofs.YtibhbjbpodlpiaaGreat
