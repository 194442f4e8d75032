/-
  Contracts over the translation. No statement is proved here.
-/
import Derived.WalkKit
import Derived.WalkSpells
import Derived.WalkLawsBesides
import Derived.BigQuiet
import Derived.Deep.QuietTactic
import Derived.Laws.StructEq
import Derived.Laws.AppendOwnNone
import Derived.Test.YtibhbjbpodlpiaaGreatQJB
set_option maxRecDepth 100000
set_option maxHeartbeats 8000000
namespace Go.Proofs.YtibhbjbpodlpiaaGreat
open Go.RowKit
open Go.Value renaming int → U, bool → β, pointer → π, tuple → τ
open Go.IntKind renaming i64 → κ, u32 → μ
open Go.Obj renaming cells → ω
open Go.Ending renaming returned → ρ
open Go.Proofs.Tryz renaming prog → pQ
theorem rright_n1 (r f:Int) (w:World) :
  Calls pQ 104 #[.agg #[β false,β true,U κ r,U κ f]] w fun e w'=>e=ρ (β false)∧Fr bg w w':=by
 go_enter Tryz.func104,Tryz.ntmps104
 go_wp2
 go_ret
 exact ⟨rfl,(Fr.refl _ _).alloc _⟩
theorem rright_n2 (r f:Int) (w:World) (hr:r≠0) :
  Calls pQ 104 #[.agg #[β false,β false,U κ r,U κ f]] w fun e w'=>e=ρ (β false)∧Fr bg w w':=by
 have t1:(r == 0)=false:=by simpa using hr
 go_enter Tryz.func104,Tryz.ntmps104
 go_wp2
 go_ret
 exact ⟨rfl,(Fr.refl _ _).alloc _⟩
theorem rright_n3 (f:Int) (w:World) (hf:f≠0) :
  Calls pQ 104 #[.agg #[β false,β false,U κ 0,U κ f]] w fun e w'=>e=ρ (β false)∧Fr bg w w':=by
 have t1:(f == 0)=false:=by simpa using hf
 go_enter Tryz.func104,Tryz.ntmps104
 go_wp2
 go_ret
 exact ⟨rfl,(Fr.refl _ _).alloc _⟩
theorem rright_n4 (w:World) :
  Calls pQ 104 #[.agg #[β false,β false,U κ 0,U κ 0]] w fun e w'=>e=ρ (β true)∧Fr bg w w':=by
 go_enter Tryz.func104,Tryz.ntmps104
 go_wp2
 go_ret
 exact ⟨rfl,(Fr.refl _ _).alloc _⟩
theorem rright_f1 (l:Bool) (r f:Int) (w:World) (hf:f<0) :
  Calls pQ 104 #[.agg #[β true,β l,U κ r,U κ f]] w fun e w'=>e=ρ (β false)∧Fr bg w w':=by
 have t1:decide (f<0)=true:=by simpa using hf
 go_enter Tryz.func104,Tryz.ntmps104
 go_wp2
 go_ret
 exact ⟨rfl,(Fr.refl _ _).alloc _⟩
theorem rright_f2 (l:Bool) (r f:Int) (w:World) (hf:1023<f) :
  Calls pQ 104 #[.agg #[β true,β l,U κ r,U κ f]] w fun e w'=>e=ρ (β false)∧Fr bg w w':=by
 have t1:decide (f<0)=false:=by simp;omega
 have t2:decide (1024≤f)=true:=by simp;omega
 have t3:decide (1023<f)=true:=by simpa using hf
 go_enter Tryz.func104,Tryz.ntmps104
 go_wp2
 go_ret
 exact ⟨rfl,(Fr.refl _ _).alloc _⟩
theorem rright_t1 (f:Int) (w:World) (h0:0≤f) (h1:f≤1023) :
  Calls pQ 104 #[.agg #[β true,β false,U κ 0,U κ f]] w fun e w'=>e=ρ (β true)∧Fr bg w w':=by
 have t1:decide (f<0)=false:=by simp;omega
 have t2:decide (1024≤f)=false:=by simp;omega
 have t3:decide (1023<f)=false:=by simp;omega
 have t0:(f == f)=true:=by simp
 go_enter Tryz.func104,Tryz.ntmps104
 go_wp2
 go_ret
 exact ⟨rfl,(Fr.refl _ _).alloc _⟩
theorem rright_t2 (r f:Int) (w:World) (h0:0≤f) (h1:f≤1023) (hr:r≠0) :
  Calls pQ 104 #[.agg #[β true,β false,U κ r,U κ f]] w fun e w'=>e=ρ (β false)∧Fr bg w w':=by
 have t1:decide (f<0)=false:=by simp;omega
 have t2:decide (1024≤f)=false:=by simp;omega
 have t3:decide (1023<f)=false:=by simp;omega
 have t0:(f == f)=true:=by simp
 have t4:(r == 0)=false:=by simpa using hr
 go_enter Tryz.func104,Tryz.ntmps104
 go_wp2
 go_ret
 exact ⟨rfl,(Fr.refl _ _).alloc _⟩
theorem rright_l1 (r f:Int) (w:World) (h0:0≤f) (h1:f≤1023) (h2:0≤r) (h3:r≤7) :
  Calls pQ 104 #[.agg #[β true,β true,U κ r,U κ f]] w fun e w'=>e=ρ (β true)∧Fr bg w w':=by
 have t1:decide (f<0)=false:=by simp;omega
 have t2:decide (1024≤f)=false:=by simp;omega
 have t3:decide (1023<f)=false:=by simp;omega
 have t0:(f == f)=true:=by simp
 have t4:decide (0≤r)=true:=by simpa using h2
 have t5:decide (r≤7)=true:=by simpa using h3
 go_enter Tryz.func104,Tryz.ntmps104
 go_wp2
 go_ret
 exact ⟨rfl,(Fr.refl _ _).alloc _⟩
theorem rright_l2 (r f:Int) (w:World) (h0:0≤f) (h1:f≤1023) (h2:r<0) :
  Calls pQ 104 #[.agg #[β true,β true,U κ r,U κ f]] w fun e w'=>e=ρ (β false)∧Fr bg w w':=by
 have t1:decide (f<0)=false:=by simp;omega
 have t2:decide (1024≤f)=false:=by simp;omega
 have t3:decide (1023<f)=false:=by simp;omega
 have t0:(f == f)=true:=by simp
 have t4:decide (0≤r)=false:=by simpa using h2
 go_enter Tryz.func104,Tryz.ntmps104
 go_wp2
 go_ret
 exact ⟨rfl,(Fr.refl _ _).alloc _⟩
theorem rright_l3 (r f:Int) (w:World) (h0:0≤f) (h1:f≤1023) (h2:7<r) :
  Calls pQ 104 #[.agg #[β true,β true,U κ r,U κ f]] w fun e w'=>e=ρ (β false)∧Fr bg w w':=by
 have t1:decide (f<0)=false:=by simp;omega
 have t2:decide (1024≤f)=false:=by simp;omega
 have t3:decide (1023<f)=false:=by simp;omega
 have t0:(f == f)=true:=by simp
 have t4:decide (0≤r)=true:=by simp;omega
 have t5:decide (r≤7)=false:=by simpa using h2
 go_enter Tryz.func104,Tryz.ntmps104
 go_wp2
 go_ret
 exact ⟨rfl,(Fr.refl _ _).alloc _⟩
theorem ql (v l:Bool) (r f:Int) (w:World) :
  Calls pQ 104 #[.agg #[β v,β l,U κ r,U κ f]] w fun e w'=>e=ρ (β (cj v l r f))∧Fr bg w w':=by
 cases v
 ·cases l
  ·by_cases hr:r=0
   ·subst hr
    by_cases hf:f=0
    ·subst hf;exact rright_n4 w
    ·rw[show cj false false 0 f=false by simp[cj,hf]];exact rright_n3 f w hf
   ·rw[show cj false false r f=false by simp[cj,hr]];exact rright_n2 r f w hr
  ·rw[show cj false true r f=false by simp[cj]];exact rright_n1 r f w
 ·by_cases h0:f<0
  ·rw[show cj true l r f=false by simp[cj];omega];exact rright_f1 l r f w h0
  by_cases h1:1023<f
  ·rw[show cj true l r f=false by simp[cj];omega];exact rright_f2 l r f w h1
  cases l
  ·by_cases hr:r=0
   ·subst hr
    rw[show cj true false 0 f=true by simp[cj];omega];exact rright_t1 f w (by omega) (by omega)
   ·rw[show cj true false r f=false by simp[cj,hr]];exact rright_t2 r f w (by omega) (by omega) hr
  ·by_cases h2:r<0
   ·rw[show cj true true r f=false by simp[cj];omega];exact rright_l2 r f w (by omega) (by omega) h2
   by_cases h3:7<r
   ·rw[show cj true true r f=false by simp[cj];omega];exact rright_l3 r f w (by omega) (by omega) h3
   ·rw[show cj true true r f=true by simp[cj];omega];exact rright_l1 r f w (by omega) (by omega) (by omega) (by omega)
theorem renc_bad (v l:Bool) (r f:Int) (w:World) (h:cj v l r f=false) :
  Calls pQ 53 #[.agg #[β v,β l,U κ r,U κ f]] w fun e w'=>e=ρ (τ #[.int .u16 0,U κ 20])∧Fr bg w w':=by
 have f0:=(Fr.refl bg w).alloc (ω (jh v l r f) 77)
 unfold jh at f0
 go_enter Tryz.func53,Tryz.ntmps53
 go_wp2_with fail
 refine(ql _ _ _ _ _).mono ?_
 rintro e w1 ⟨rfl,f1⟩
 rw[h]
 replace f1:=f0.trans f1
 go_wp2
 go_ret2
 exact ⟨rfl,f1⟩
theorem renc_leaf (r f:Int) (w:World) (h1:0≤r) (h2:r≤7) (h3:0≤f) (h4:f≤1023) :
  Calls pQ 53 #[.agg #[β true,β true,U κ r,U κ f]] w fun e w'=>e=ρ (τ #[.int .u16 (f*64+r*4+3),U κ 0])∧Fr bg w w':=by
 have f0:=(Fr.refl bg w).alloc (ω (jh true true r f) 77)
 have r0:=ba w (jh true true r f) 77
 have hr:cj true true r f=true:=by simp[cj];omega
 unfold jh at f0
 go_enter Tryz.func53,Tryz.ntmps53
 go_wp2_with fail
 refine(ql _ _ _ _ _).mono ?_
 rintro e w1 ⟨rfl,f1⟩
 rw[hr]
 obtain ⟨c0,c1,c2,c3⟩:=du (r0.keep f1 (fun h=>h))
 replace f1:=f0.trans f1
 clear f0 r0 hr
 go_wp2
 go_ret2
 exact ⟨qp (by omega) rfl,f1⟩
theorem renc_node (f:Int) (w:World) (h3:0≤f) (h4:f≤1023) :
  Calls pQ 53 #[.agg #[β true,β false,U κ 0,U κ f]] w fun e w'=>e=ρ (τ #[.int .u16 (f*64+1),U κ 0])∧Fr bg w w':=by
 have f0:=(Fr.refl bg w).alloc (ω (jh true false 0 f) 77)
 have r0:=ba w (jh true false 0 f) 77
 have hr:cj true false 0 f=true:=by simp[cj];omega
 unfold jh at f0
 go_enter Tryz.func53,Tryz.ntmps53
 go_wp2_with fail
 refine(ql _ _ _ _ _).mono ?_
 rintro e w1 ⟨rfl,f1⟩
 rw[hr]
 obtain ⟨c0,c1,c2,c3⟩:=du (r0.keep f1 (fun h=>h))
 replace f1:=f0.trans f1
 clear f0 r0 hr
 go_wp2
 go_ret2
 exact ⟨qp (by omega) rfl,f1⟩
theorem renc_none (w:World) :
  Calls pQ 53 #[.agg #[β false,β false,U κ 0,U κ 0]] w fun e w'=>e=ρ (τ #[.int .u16 (0),U κ 0])∧Fr bg w w':=by
 have f0:=(Fr.refl bg w).alloc (ω (jh false false 0 0) 77)
 have r0:=ba w (jh false false 0 0) 77
 have hr:cj false false 0 0=true:=by simp[cj]
 unfold jh at f0
 go_enter Tryz.func53,Tryz.ntmps53
 go_wp2_with fail
 refine(ql _ _ _ _ _).mono ?_
 rintro e w1 ⟨rfl,f1⟩
 rw[hr]
 obtain ⟨c0,c1,c2,c3⟩:=du (r0.keep f1 (fun h=>h))
 replace f1:=f0.trans f1
 clear f0 r0 hr
 go_wp2
 go_ret2
 exact ⟨qp (by omega) rfl,f1⟩
theorem renc_ok (v l:Bool) (r f:Int) (w:World) (h:cj v l r f=true) :
  Calls pQ 53 #[.agg #[β v,β l,U κ r,U κ f]] w fun e w'=>e=ρ (τ #[.int .u16 (ky v l r f),U κ 0])∧Fr bg w w':=by
 rcases sg h with ⟨rfl,rfl,rfl,rfl⟩ | ⟨rfl,rfl,rfl,h1,h2⟩ | ⟨rfl,rfl,h1,h2,h3,h4⟩
 ·exact renc_none w
 ·rw[show ky true false 0 f=f*64+1 by simp[ky]];exact renc_node f w h1 h2
 ·rw[show ky true true r f=f*64+r*4+3 by simp[ky];omega];exact renc_leaf r f w h1 h2 h3 h4
theorem renc_parts (x:Nat) (w:World) (h:md x=true) :
  Calls pQ 53 #[.agg #[β ((x:Int)%2 == 1),β ((x:Int) / 2%2 == 1),U κ ((x:Int) / 4%8),U κ ((x:Int) / 64)]] w fun e w'=>e=ρ (τ #[.int .u16 (x:Int),U κ 0])∧Fr bg w w':=by
 have:=renc_ok (pv x) (pl x) (pr x) (pf x) w (ok_right h)
 rwa [word_parts h] at this
theorem rdec_good (x:Nat) (w:World) (hx:x<65536) (h:md x=true) :
  Calls pQ 183 #[.int .u16 (x:Int)] w fun e w'=>e=ρ (τ #[.agg #[β (pv x),β (pl x),U κ (pr x),U κ (pf x)],U κ 0])∧Fr bg w w':=by
 have r1:=(ba w (jh false false 0 0) 77).alloc (ω (jh ((x:Int)%2 == 1) ((x:Int) / 2%2 == 1) ((x:Int) / 4%8) ((x:Int) / 64)) 77)
 have q1:=ba (w.alloc (ω (jh false false 0 0) 77)) (jh ((x:Int)%2 == 1) ((x:Int) / 2%2 == 1) ((x:Int) / 4%8) ((x:Int) / 64)) 77
 have f1:=((Fr.refl bg w).alloc (ω (jh false false 0 0) 77)).alloc (ω (jh ((x:Int)%2 == 1) ((x:Int) / 2%2 == 1) ((x:Int) / 4%8) ((x:Int) / 64)) 77)
 rw[show(w.alloc (ω (jh false false 0 0) 77)).heap.size=w.heap.size+1 by simp] at q1
 unfold jh at f1
 go_enter Tryz.func183,Tryz.ntmps183
 go_wp2_with fail
 refine(renc_parts _ _ h).mono ?_
 rintro e w2 ⟨rfl,f2⟩
 have r2:=r1.keep f2 (fun h=>h)
 have q2:=q1.keep f2 (fun h=>h)
 replace f2:=f1.trans f2
 clear r1 q1 f1
 obtain ⟨c0,c1,c2,c3⟩:=du r2
 obtain ⟨k0,k1,k2,k3⟩:=dy r2
 obtain ⟨d0,d1,d2,d3⟩:=du q2
 go_wp2_with fail
 refine bodyPost_ret (cw rfl rfl (jl r2) rfl) rfl ?_
 exact ⟨rfl,kg f2 (Or.inl (Nat.le_refl _))⟩
theorem rdec_bad1 (x:Nat) (w:World) (hx:x<65536) (h:cj (pv x) (pl x) (pr x) (pf x)=false) :
  Calls pQ 183 #[.int .u16 (x:Int)] w fun e w'=>e=ρ (τ #[.agg #[β false,β false,U κ 0,U κ 0],U κ 20])∧Fr bg w w':=by
 have r1:=(ba w (jh false false 0 0) 77).alloc (ω (jh ((x:Int)%2 == 1) ((x:Int) / 2%2 == 1) ((x:Int) / 4%8) ((x:Int) / 64)) 77)
 have q1:=ba (w.alloc (ω (jh false false 0 0) 77)) (jh ((x:Int)%2 == 1) ((x:Int) / 2%2 == 1) ((x:Int) / 4%8) ((x:Int) / 64)) 77
 have f1:=((Fr.refl bg w).alloc (ω (jh false false 0 0) 77)).alloc (ω (jh ((x:Int)%2 == 1) ((x:Int) / 2%2 == 1) ((x:Int) / 4%8) ((x:Int) / 64)) 77)
 rw[show(w.alloc (ω (jh false false 0 0) 77)).heap.size=w.heap.size+1 by simp] at q1
 unfold jh at f1
 go_enter Tryz.func183,Tryz.ntmps183
 go_wp2_with fail
 refine(renc_bad _ _ _ _ _ h).mono ?_
 rintro e w2 ⟨rfl,f2⟩
 have r2:=r1.keep f2 (fun h=>h)
 have q2:=q1.keep f2 (fun h=>h)
 replace f2:=f1.trans f2
 clear r1 q1 f1
 obtain ⟨c0,c1,c2,c3⟩:=du r2
 obtain ⟨k0,k1,k2,k3⟩:=dy r2
 obtain ⟨d0,d1,d2,d3⟩:=du q2
 go_wp2_with fail
 refine bodyPost_ret (cw rfl rfl (jl r2) rfl) rfl ?_
 exact ⟨rfl,kg f2 (Or.inl (Nat.le_refl _))⟩
theorem rdec_bad2 (x:Nat) (w:World) (hx:x<65536) (h:cj (pv x) (pl x) (pr x) (pf x)=true) (hn:ky (pv x) (pl x) (pr x) (pf x)≠(x:Int)) :
  Calls pQ 183 #[.int .u16 (x:Int)] w fun e w'=>e=ρ (τ #[.agg #[β false,β false,U κ 0,U κ 0],U κ 20])∧Fr bg w w':=by
 have r1:=(ba w (jh false false 0 0) 77).alloc (ω (jh ((x:Int)%2 == 1) ((x:Int) / 2%2 == 1) ((x:Int) / 4%8) ((x:Int) / 64)) 77)
 have q1:=ba (w.alloc (ω (jh false false 0 0) 77)) (jh ((x:Int)%2 == 1) ((x:Int) / 2%2 == 1) ((x:Int) / 4%8) ((x:Int) / 64)) 77
 have f1:=((Fr.refl bg w).alloc (ω (jh false false 0 0) 77)).alloc (ω (jh ((x:Int)%2 == 1) ((x:Int) / 2%2 == 1) ((x:Int) / 4%8) ((x:Int) / 64)) 77)
 rw[show(w.alloc (ω (jh false false 0 0) 77)).heap.size=w.heap.size+1 by simp] at q1
 unfold jh at f1
 have t1:(ky (pv x) (pl x) (pr x) (pf x) != (x:Int))=true:=by simpa using hn
 go_enter Tryz.func183,Tryz.ntmps183
 go_wp2_with fail
 refine(renc_ok (pv x) (pl x) (pr x) (pf x) _ h).mono ?_
 rintro e w2 ⟨rfl,f2⟩
 have r2:=r1.keep f2 (fun h=>h)
 have q2:=q1.keep f2 (fun h=>h)
 replace f2:=f1.trans f2
 clear r1 q1 f1
 obtain ⟨c0,c1,c2,c3⟩:=du r2
 obtain ⟨k0,k1,k2,k3⟩:=dy r2
 obtain ⟨d0,d1,d2,d3⟩:=du q2
 go_wp2_with fail
 refine bodyPost_ret (cw rfl rfl (jl r2) rfl) rfl ?_
 exact ⟨rfl,kg f2 (Or.inl (Nat.le_refl _))⟩
theorem rdec_any (x:Nat) (w:World) (hx:x<65536) :
  Calls pQ 183 #[.int .u16 (x:Int)] w fun e w'=>e=ρ (τ #[.agg #[β (dv x),β (dl x),U κ (dr x),U κ (df x)],U κ (de x)])∧Fr bg w w':=by
 unfold dv dl dr df de
 by_cases h:md x=true
 ·rw[h];simpa using rdec_good x w hx h
 ·have h':md x=false:=by simpa using h
  rw[h']
  simp only[Bool.false_and,Bool.false_eq_true,if_false]
  by_cases hr:cj (pv x) (pl x) (pr x) (pf x)=true
  ·exact rdec_bad2 x w hx hr (bad_word h' hr)
  ·exact rdec_bad1 x w hx (by simpa using hr)
theorem rindex_out (page level:Int) (w:World) (h:page<0∨1023<page) :
  Calls pQ 178 #[U κ page,U κ level] w fun e w'=>e=ρ (U κ 0)∧w=w':=by
 by_cases h0:page<0
 ·have t1:decide (page<0)=true:=by simpa using h0
  clear h h0
  go_enter Tryz.func178,Tryz.ntmps178
  go_wp2
  go_ret
  exact ⟨rfl,rfl⟩
 ·have t1:decide (page<0)=false:=by simpa using h0
  have t2:decide (1023<page)=true:=by simp;omega
  clear h h0
  go_enter Tryz.func178,Tryz.ntmps178
  go_wp2
  go_ret
  exact ⟨rfl,rfl⟩
theorem rindex_in (page level:Int) (w:World) (h0:0≤page) (h1:page≤1023) :
  Calls pQ 178 #[U κ page,U κ level] w fun e w'=>e=ρ (U κ (if level=0 then page / 32 else if level=1 then page%32 else 0))∧w=w':=by
 have t1:decide (page<0)=false:=by simpa using h0
 have t2:decide (1023<page)=false:=by simp;omega
 by_cases l0:level=0
 ·subst l0
  rw[if_pos rfl]
  go_enter Tryz.func178,Tryz.ntmps178
  go_wp2
  go_ret
  exact ⟨rfl,rfl⟩
 by_cases l1:level=1
 ·subst l1
  rw[if_neg l0,if_pos rfl]
  go_enter Tryz.func178,Tryz.ntmps178
  go_wp2
  go_ret
  exact ⟨rfl,rfl⟩
 ·rw[if_neg l0,if_neg l1]
  have t3:(level == 0)=false:=by simpa using l0
  have t4:(level == 1)=false:=by simpa using l1
  clear l0 l1
  go_enter Tryz.func178,Tryz.ntmps178
  go_wp2
  go_ret
  exact ⟨rfl,rfl⟩
theorem kv (page level:Int) (w:World):Calls pQ 178 #[U κ page,U κ level] w fun e w'=>e=ρ (U κ (np page level))∧w=w':=by
 unfold np
 by_cases h:page<0∨1023<page
 ·rw[if_pos h];exact rindex_out page level w h
 ·rw[if_neg h];exact rindex_in page level w (by omega) (by omega)
theorem same_len (w:World) (a0 a1:Option Addr) (l0 l1 c0 c1:Nat) (hl:l0≠l1) :
  Calls pQ 44 #[.slice a0 l0 c0,.slice a1 l1 c1] w fun e w'=>e=ρ (β false)∧w=w':=by
 have hb:((l0:Int) != (l1:Int))=true:=by simp;omega
 go_enter Tryz.func44,Tryz.ntmps44
 go_wp2
 go_ret
 exact ⟨rfl,rfl⟩
theorem same_nil (w:World) (a0 a1:Option Addr) (c0 c1:Nat) :
  Calls pQ 44 #[.slice a0 0 c0,.slice a1 0 c1] w fun e w'=>e=ρ (β true)∧w=w':=by
 go_enter Tryz.func44,Tryz.ntmps44
 go_wp2
 refine wp_loop_rounds 1 ?_
 rw[rounds_succ];go_wp2
 go_ret
 exact ⟨rfl,rfl⟩
theorem take_eq_all' {a b:List UInt8} {n k:Nat} (ha:a.length=n) (hb:b.length=n) (hk:n≤k) (h:a.take k=b.take k):a=b:=by
 rwa [List.take_of_length_le (by omega),List.take_of_length_le (by omega)] at h
theorem ne_of_step {d0 d1:List UInt8} {k:Nat} {x0 x1:UInt8} (hx:¬ x0=x1) (h0:d0.take (k+1)=d0.take k ++ [x0]) (h1:d1.take (k+1)=d1.take k ++ [x1]):¬ d0=d1:=by
 intro e
 subst e
 rw[h0] at h1
 have:=List.append_cancel_left h1
 simp at this
 exact hx this
theorem same_row (w:World) (b0 o0 b1 o1 l c0 c1:Nat) (d0 d1:List UInt8) (h0:d0.length=l) (h1:d1.length=l) (hm:l≤9223372036854775807)
  (hc0:∀ j,(hj:j<d0.length)→w.cell? ⟨b0,o0+j,none⟩=some (.int .u8 ((d0[j].toNat:Nat):Int))) (hc1:∀ j,(hj:j<d1.length)→w.cell? ⟨b1,o1+j,none⟩=some (.int .u8 ((d1[j].toNat:Nat):Int))) :
  Calls pQ 44 #[.slice (some ⟨b0,o0,none⟩) l c0,.slice (some ⟨b1,o1,none⟩) l c1] w fun e w'=>e=ρ (β (decide (d0=d1)))∧Fr bg w w':=by
 have HC0:Hid (∀ j,(hj:j<d0.length)→w.cell? ⟨b0,o0+j,none⟩=some (.int .u8 ((d0[j].toNat:Nat):Int))):=hc0
 have HC1:Hid (∀ j,(hj:j<d1.length)→w.cell? ⟨b1,o1+j,none⟩=some (.int .u8 ((d1[j].toNat:Nat):Int))):=hc1
 have HL0:Hid (d0.length=l):=h0
 have HL1:Hid (d1.length=l):=h1
 clear hc0 hc1 h0 h1
 go_enter Tryz.func44,Tryz.ntmps44
 go_wp2
 go_loopw [5] (fun i wr=>∃ k:Nat,k≤l∧i=U κ k∧(∃ m,wr=w.drewN m)∧Hid (d0.take k=d1.take k)) (fun i _=>l-(intOf i).toNat)
 case atStart=>exact ⟨0,Nat.zero_le _,rfl,⟨0,rfl⟩,rfl⟩
 case round =>
  obtain ⟨k,hk,rfl,⟨m,rfl⟩,HT⟩:=hrel
  by_cases hlt:k<l
  ·have g0:k<d0.length:=by rw[HL0.out];exact hlt
   have g1:k<d1.length:=by rw[HL1.out];exact hlt
   have e0:=HC0.out k g0
   have e1:=HC1.out k g1
   have HN0:Hid (d0.take (k+1)=d0.take k ++ [d0[k]]):=List.take_succ_eq_append_getElem g0
   have HN1:Hid (d1.take (k+1)=d1.take k ++ [d1[k]]):=List.take_succ_eq_append_getElem g1
   generalize d0[k]=x0 at *
   generalize d1[k]=x1 at *
   have hlt':(k:Int)<(l:Int):=by omega
   by_cases hx:x0=x1
   ·have hb:(((x0.toNat:Nat):Int) != ((x1.toNat:Nat):Int))=false:=by simp[hx]
    go_wp2
    go_quiet (fail)
    go_wp2
    go_roundw
    case rel=>exact ⟨k+1,by omega,by go_num,⟨_,rfl⟩,show _=_ by rw[HN0.out,HN1.out,HT.out,hx]⟩
    case measure=>simp[intOf];omega
   ·have hb:(((x0.toNat:Nat):Int) != ((x1.toNat:Nat):Int))=true:=by
     simp;intro e;exact hx (UInt8.toNat_inj.1 (by omega))
    go_wp2
    go_quiet (fail)
    go_wp2
    go_ret
    exact ⟨jk (decide_eq_false (ne_of_step hx HN0.out HN1.out)).symm,(bo _ _).trans (bo _ _)⟩
  ·have hlt':¬ (k:Int)<(l:Int):=by omega
   go_wp2
   go_ret
   exact ⟨jk (decide_eq_true (take_eq_all' HL0.out HL1.out (by omega) HT.out)).symm,bo _ _⟩
theorem src_at {w:World} {a:Addr} {d:List UInt8} (hp:0<d.length) (h:∀ (j:Nat) (hj:j<d.length),w.cell? (a.add j)=some (U8 d[j])) :
  ∃ b o,a=⟨b,o,none⟩∧∀ j,(hj:j<d.length)→w.cell? ⟨b,o+j,none⟩=some (.int .u8 ((d[j].toNat:Nat):Int)):=by
 obtain ⟨b,o,sp⟩:=a
 have hs:=World.cell?_spot (h 0 hp)
 have hs':sp=none:=by simpa [Addr.add] using hs
 subst hs'
 refine ⟨b,o,rfl,fun j hj=>?_⟩
 have hadd:(⟨b,o,none⟩:Addr).add j=⟨b,o+j,none⟩:=by unfold Addr.add;split <;> simp_all
 have:=h j hj
 rw[hadd] at this
 exact this
theorem same_any (w:World) (a0 a1:Option Addr) (l0 l1 c0 c1:Nat) (d0 d1:List UInt8) (h0:d0.length=l0) (h1:d1.length=l1) (hm:l0≤9223372036854775807) (s0:Src w a0 d0) (s1:Src w a1 d1) :
  Calls pQ 44 #[.slice a0 l0 c0,.slice a1 l1 c1] w fun e w'=>e=ρ (β (decide (d0=d1)))∧Fr bg w w':=by
 by_cases hl:l0=l1
 ·subst hl
  by_cases hz:l0=0
  ·have e0:d0=[]:=List.eq_nil_of_length_eq_zero (by omega)
   have e1:d1=[]:=List.eq_nil_of_length_eq_zero (by omega)
   subst e0 e1 hz
   refine(same_nil w a0 a1 c0 c1).mono ?_
   rintro e w' ⟨rfl,rfl⟩
   exact ⟨jk (decide_eq_true rfl).symm,Fr.refl _ _⟩
  ·obtain ⟨x0,rfl,g0⟩:=s0 (by omega)
   obtain ⟨x1,rfl,g1⟩:=s1 (by omega)
   obtain ⟨b0,o0,rfl,k0⟩:=src_at (by omega) g0
   obtain ⟨b1,o1,rfl,k1⟩:=src_at (by omega) g1
   exact same_row w b0 o0 b1 o1 l0 c0 c1 d0 d1 h0 h1 hm k0 k1
 ·refine(same_len w a0 a1 l0 l1 c0 c1 hl).mono ?_
  rintro e w' ⟨rfl,rfl⟩
  refine ⟨jk (decide_eq_false (fun e=>hl ?_)).symm,Fr.refl _ _⟩
  rw[←h0,←h1,e]
structure IsRef (w:World) (p bf nf:Nat) (bs:List UInt8):Prop where
 head:Row w p #[.slice (some ⟨bf,0,none⟩) (64*nf) (64*nf)] 139
 row:Row w bf (cu bs) 5
 len:bs.length=64*nf
 most:nf≤1024
 apart:p≠bf
theorem IsRef.hcell {w:World} {p bf nf:Nat} {bs:List UInt8} (h:IsRef w p bf nf bs):w.cell? ⟨p,0,none⟩=some (.slice (some ⟨bf,0,none⟩) (64*nf) (64*nf)):=by
 rw[h.head.cell 0];rfl
theorem IsRef.bcell {w:World} {p bf nf:Nat} {bs:List UInt8} (h:IsRef w p bf nf bs) (i:Nat) (hi:i<bs.length):w.cell? ⟨bf,i,none⟩=some (.int .u8 ((bs[i].toNat:Nat):Int)):=by
 rw[h.row.cell i,mf bs i hi];rfl
theorem IsRef.keep {S:Nat→Prop} {w w':World} {p bf nf:Nat} {bs:List UInt8} (h:IsRef w p bf nf bs) (f:Fr S w w') (hp:¬ S p) (hb:¬ S bf):IsRef w' p bf nf bs:=
 ⟨h.head.keep f hp,h.row.keep f hb,h.len,h.most,h.apart⟩
theorem IsRef.set {w:World} {p bf nf:Nat} {bs:List UInt8} (h:IsRef w p bf nf bs) (a:Nat) (x:UInt8):IsRef (w.setCell ⟨bf,a,none⟩ (U8 x)) p bf nf (bs.set a x):=
 ⟨h.head.setCell_other (Ne.symm h.apart) _,by rw[←qf];exact h.row.setCell a _,by simp[h.len],h.most,h.apart⟩
theorem lw {w:World} {p bf nf:Nat} {bs:List UInt8} (h:IsRef w p bf nf bs) (a:Nat) (v:Nat) (y:Int) (e:y=((v:Nat):Int)%256) :
  IsRef (w.setCell ⟨bf,a,none⟩ (.int .u8 y)) p bf nf (bs.set a (UInt8.ofNat v)):=by
 subst e;rw[←U8_ofNat];exact h.set a _
theorem wrong_arg (b:Nat) (addr size:Int) (w:World) (hs:size≠1∧size≠2∧size≠4) :
  Calls pQ 55 #[π (some ⟨b,0,none⟩),U κ addr,U κ size] w fun e w'=>e=ρ (U κ 1)∧w'=w:=by
 have e1:(size != 1)=true:=by simp;omega
 have e2:(size != 2)=true:=by simp;omega
 have e4:(size != 4)=true:=by simp;omega
 clear hs
 go_enter Tryz.func55,Tryz.ntmps55
 go_wp2
 go_ret
 exact ⟨rfl,rfl⟩
theorem wrong_align (b:Nat) (addr size:Int) (w:World) (hs:size=1∨size=2∨size=4) (ha:addr.tmod size≠0) :
  Calls pQ 55 #[π (some ⟨b,0,none⟩),U κ addr,U κ size] w fun e w'=>e=ρ (U κ 11)∧w'=w:=by
 rcases hs with rfl | rfl | rfl
 ·simp at ha
 ·have e1:(addr.tmod 2 != 0)=true:=by simpa using ha
  go_enter Tryz.func55,Tryz.ntmps55
  go_wp2
  go_ret
  exact ⟨rfl,rfl⟩
 ·have e1:(addr.tmod 4 != 0)=true:=by simpa using ha
  go_enter Tryz.func55,Tryz.ntmps55
  go_wp2
  go_ret
  exact ⟨rfl,rfl⟩
theorem wrong_neg (b:Nat) (addr size:Int) (w:World) (hs:size=1∨size=2∨size=4) (ha:addr.tmod size=0) (h0:addr<0) :
  Calls pQ 55 #[π (some ⟨b,0,none⟩),U κ addr,U κ size] w fun e w'=>e=ρ (U κ 10)∧w'=w:=by
 have hd:decide (addr<0)=true:=by simpa using h0
 rcases hs with rfl | rfl | rfl
 ·clear ha
  go_enter Tryz.func55,Tryz.ntmps55
  go_wp2
  go_ret
  exact ⟨rfl,rfl⟩
 ·have e1:(addr.tmod 2 != 0)=false:=by simpa using ha
  go_enter Tryz.func55,Tryz.ntmps55
  go_wp2
  go_ret
  exact ⟨rfl,rfl⟩
 ·have e1:(addr.tmod 4 != 0)=false:=by simpa using ha
  go_enter Tryz.func55,Tryz.ntmps55
  go_wp2
  go_ret
  exact ⟨rfl,rfl⟩
theorem wrong_pos (b bf n:Nat) (addr size:Int) (w:World) (h:w.cell? ⟨b,0,none⟩=some (.slice (some ⟨bf,0,none⟩) n n)) (hs:size=1∨size=2∨size=4) (ha:addr%size=0) (h0:0≤addr) :
  Calls pQ 55 #[π (some ⟨b,0,none⟩),U κ addr,U κ size] w fun e w'=>e=ρ (U κ (if (n:Int)≤addr then 10 else 0))∧w'=w:=by
 have t1:decide (addr<0)=false:=by simpa using h0
 by_cases hf:(n:Int)≤addr
 ·have t2:decide ((n:Int)≤addr)=true:=by simpa using hf
  rw[if_pos hf]
  rcases hs with rfl | rfl | rfl
  ·clear ha
   go_enter Tryz.func55,Tryz.ntmps55
   go_wp2
   go_ret
   exact ⟨rfl,rfl⟩
  ·go_enter Tryz.func55,Tryz.ntmps55
   go_wp2
   go_ret
   exact ⟨rfl,rfl⟩
  ·go_enter Tryz.func55,Tryz.ntmps55
   go_wp2
   go_ret
   exact ⟨rfl,rfl⟩
 ·have t2:decide ((n:Int)≤addr)=false:=by simpa using hf
  rw[if_neg hf]
  rcases hs with rfl | rfl | rfl
  ·clear ha
   go_enter Tryz.func55,Tryz.ntmps55
   go_wp2
   go_ret
   exact ⟨rfl,rfl⟩
  ·go_enter Tryz.func55,Tryz.ntmps55
   go_wp2
   go_ret
   exact ⟨rfl,rfl⟩
  ·go_enter Tryz.func55,Tryz.ntmps55
   go_wp2
   go_ret
   exact ⟨rfl,rfl⟩
theorem wj (b bf nf:Nat) (addr size:Int) (w:World) (h:w.cell? ⟨b,0,none⟩=some (.slice (some ⟨bf,0,none⟩) (64*nf) (64*nf))) :
  Calls pQ 55 #[π (some ⟨b,0,none⟩),U κ addr,U κ size] w fun e w'=>e=ρ (U κ (dk addr size nf))∧w'=w:=by
 by_cases a:size≠1∧size≠2∧size≠4
 ·rw[err_arg a];exact wrong_arg b addr size w a
 have a':size=1∨size=2∨size=4:=by omega
 by_cases c:addr.tmod size≠0
 ·rw[yk a c];exact wrong_align b addr size w a' c
 by_cases d0:addr<0
 ·rw[pd a c (Or.inl d0)];exact wrong_neg b addr size w a' (by omega) d0
 have c':addr%size=0:=by rw[←Int.tmod_eq_emod_of_nonneg (by omega)];omega
 refine(wrong_pos b bf (64*nf) addr size w h a' c' (by omega)).mono ?_
 rintro e w' ⟨rfl,rfl⟩
 refine ⟨?_,rfl⟩
 by_cases d:64*(nf:Int)≤addr
 ·rw[pd a c (Or.inr d),if_pos (by omega)]
 ·rw[err_none a c (by omega),if_neg (by omega)]
theorem rload_bad (b bf nf:Nat) (addr size:Int) (w:World) (h:w.cell? ⟨b,0,none⟩=some (.slice (some ⟨bf,0,none⟩) (64*nf) (64*nf))) (he:dk addr size nf≠0) :
  Calls pQ 30 #[π (some ⟨b,0,none⟩),U κ addr,U κ size] w fun e w'=>e=ρ (τ #[U μ 0,U κ (dk addr size nf)])∧w'=w:=by
 have hb:(dk addr size nf != 0)=true:=by simpa using he
 go_enter Tryz.func30,Tryz.ntmps30
 go_wp2_with (go_at_call 55;refine(wj _ _ _ _ _ _ h).mono ?_;rintro e w' ⟨rfl,rfl⟩)
 go_ret2
 exact ⟨rfl,rfl⟩
theorem m8 (b bf nf:Nat) (addr size:Int) (w:World) (h:w.cell? ⟨b,0,none⟩=some (.slice (some ⟨bf,0,none⟩) (64*nf) (64*nf))) (he:dk addr size nf=0) :
  Calls pQ 55 #[π (some ⟨b,0,none⟩),U κ addr,U κ size] w fun e w'=>e=ρ (U κ 0)∧w'=w:=by
 have:=wj b bf nf addr size w h
 rwa [he] at this
theorem rload1 (b bf nf a x0:Nat) (w:World) (h:w.cell? ⟨b,0,none⟩=some (.slice (some ⟨bf,0,none⟩) (64*nf) (64*nf))) (hn:nf≤1024) (ha:a+1≤64*nf) (he:dk a 1 nf=0)
  (c0:w.cell? ⟨bf,a,none⟩=some (.int .u8 (x0:Int)))
  (h0:x0<256) :
  Calls pQ 30 #[π (some ⟨b,0,none⟩),U κ (a:Int),U κ 1] w fun e w'=>e=ρ (τ #[U μ ((x0+256*0:Nat):Int),U κ 0])∧w'=w:=by
 have HE:Hid (dk a 1 nf=0):=he
 clear he
 have i0:0≤(a:Int)∧(a:Int)<((64*nf:Nat):Int):=by omega
 go_enter Tryz.func30,Tryz.ntmps30
 go_wp2_with (go_at_call 55;refine(m8 _ _ _ _ _ _ h HE).mono ?_;rintro e w' ⟨rfl,rfl⟩)
 refine wp_loop_rounds 2 ?_
 rw[rounds_succ];go_wp2
 rw[rounds_succ];go_wp2
 go_ret2
 exact ⟨qn (by omega),rfl⟩
theorem rload2 (b bf nf a x0 x1:Nat) (w:World) (h:w.cell? ⟨b,0,none⟩=some (.slice (some ⟨bf,0,none⟩) (64*nf) (64*nf))) (hn:nf≤1024) (ha:a+2≤64*nf) (he:dk a 2 nf=0)
  (c0:w.cell? ⟨bf,a,none⟩=some (.int .u8 (x0:Int))) (c1:w.cell? ⟨bf,a+1,none⟩=some (.int .u8 (x1:Int)))
  (h0:x0<256) (h1:x1<256) :
  Calls pQ 30 #[π (some ⟨b,0,none⟩),U κ (a:Int),U κ 2] w fun e w'=>e=ρ (τ #[U μ ((x0+256*(x1+256*0):Nat):Int),U κ 0])∧w'=w:=by
 have HE:Hid (dk a 2 nf=0):=he
 clear he
 have i0:0≤(a:Int)∧(a:Int)<((64*nf:Nat):Int):=by omega
 have i1:0≤(a:Int)+1∧(a:Int)+1<((64*nf:Nat):Int):=by omega
 go_enter Tryz.func30,Tryz.ntmps30
 go_wp2_with (go_at_call 55;refine(m8 _ _ _ _ _ _ h HE).mono ?_;rintro e w' ⟨rfl,rfl⟩)
 refine wp_loop_rounds 3 ?_
 rw[rounds_succ];go_wp2
 rw[rounds_succ];go_wp2
 rw[rounds_succ];go_wp2
 go_ret2
 exact ⟨qn (by omega),rfl⟩
theorem rload4 (b bf nf a x0 x1 x2 x3:Nat) (w:World) (h:w.cell? ⟨b,0,none⟩=some (.slice (some ⟨bf,0,none⟩) (64*nf) (64*nf))) (hn:nf≤1024) (ha:a+4≤64*nf) (he:dk a 4 nf=0)
  (c0:w.cell? ⟨bf,a,none⟩=some (.int .u8 (x0:Int))) (c1:w.cell? ⟨bf,a+1,none⟩=some (.int .u8 (x1:Int))) (c2:w.cell? ⟨bf,a+2,none⟩=some (.int .u8 (x2:Int))) (c3:w.cell? ⟨bf,a+3,none⟩=some (.int .u8 (x3:Int)))
  (h0:x0<256) (h1:x1<256) (h2:x2<256) (h3:x3<256) :
  Calls pQ 30 #[π (some ⟨b,0,none⟩),U κ (a:Int),U κ 4] w fun e w'=>e=ρ (τ #[U μ ((x0+256*(x1+256*(x2+256*(x3+256*0))):Nat):Int),U κ 0])∧w'=w:=by
 have HE:Hid (dk a 4 nf=0):=he
 clear he
 have i0:0≤(a:Int)∧(a:Int)<((64*nf:Nat):Int):=by omega
 have i1:0≤(a:Int)+1∧(a:Int)+1<((64*nf:Nat):Int):=by omega
 have i2:0≤(a:Int)+2∧(a:Int)+2<((64*nf:Nat):Int):=by omega
 have i3:0≤(a:Int)+3∧(a:Int)+3<((64*nf:Nat):Int):=by omega
 go_enter Tryz.func30,Tryz.ntmps30
 go_wp2_with (go_at_call 55;refine(m8 _ _ _ _ _ _ h HE).mono ?_;rintro e w' ⟨rfl,rfl⟩)
 refine wp_loop_rounds 5 ?_
 rw[rounds_succ];go_wp2
 rw[rounds_succ];go_wp2
 rw[rounds_succ];go_wp2
 rw[rounds_succ];go_wp2
 rw[rounds_succ];go_wp2
 go_ret2
 exact ⟨qn (by omega),rfl⟩
theorem la (w:World) (p bf nf:Nat) (bs:List UInt8) (addr size:Int) (h:IsRef w p bf nf bs) :
  Calls pQ 30 #[π (some ⟨p,0,none⟩),U κ addr,U κ size] w fun e w'=>e=ρ (τ #[U μ (j5 bs addr size nf),U κ (dk addr size nf)])∧w'=w:=by
 by_cases he:dk addr size nf=0
 ·obtain ⟨hs,ha,h0,h1⟩:=te he
  obtain ⟨a,rfl⟩:=Int.eq_ofNat_of_zero_le h0
  rw[Int.tmod_eq_emod_of_nonneg h0] at ha
  have hl:=h.len
  rw[j5,if_pos he,he,Int.toNat_natCast]
  rcases hs with rfl | rfl | rfl
  ·rw[show(1:Int).toNat=1 from rfl,numOf_1 bs a (by omega)]
   exact rload1 p bf nf a _ w h.hcell h.most (by omega) he (h.bcell a (by omega)) (UInt8.toNat_lt _)
  ·rw[show(2:Int).toNat=2 from rfl,numOf_2 bs a (by omega)]
   exact rload2 p bf nf a _ _ w h.hcell h.most (by omega) he (h.bcell a (by omega)) (h.bcell (a+1) (by omega)) (UInt8.toNat_lt _) (UInt8.toNat_lt _)
  ·rw[show(4:Int).toNat=4 from rfl,numOf_4 bs a (by omega)]
   exact rload4 p bf nf a _ _ _ _ w h.hcell h.most (by omega) he (h.bcell a (by omega)) (h.bcell (a+1) (by omega)) (h.bcell (a+2) (by omega)) (h.bcell (a+3) (by omega)) (UInt8.toNat_lt _) (UInt8.toNat_lt _) (UInt8.toNat_lt _) (UInt8.toNat_lt _)
 ·rw[j5,if_neg he]
  exact rload_bad p bf nf addr size w h.hcell he
theorem rstore1 (b bf nf a v:Nat) (y0:Value) (w:World) (h:w.cell? ⟨b,0,none⟩=some (.slice (some ⟨bf,0,none⟩) (64*nf) (64*nf))) (hn:nf≤1024) (ha:a+1≤64*nf) (he:dk a 1 nf=0) (hv:v<4294967296)
  (c0:w.cell? ⟨bf,a,none⟩=some y0) (f:∀ i,w.frozen? ⟨bf,i,none⟩=false) :
  Calls pQ 24 #[π (some ⟨b,0,none⟩),U κ (a:Int),U κ 1,U μ (v:Int)] w fun e w'=>e=ρ (U κ 0)∧(w.setCell ⟨bf,a,none⟩ (.int .u8 ((v:Int)%256)))=w':=by
 have HE:Hid (dk a 1 nf=0):=he
 clear he
 have i0:0≤(a:Int)∧(a:Int)<((64*nf:Nat):Int):=by omega
 go_enter Tryz.func24,Tryz.ntmps24
 go_wp2_with (go_at_call 55;refine(m8 _ _ _ _ _ _ h HE).mono ?_;rintro e w' ⟨rfl,rfl⟩)
 refine wp_loop_rounds 2 ?_
 rw[rounds_succ];go_wp2
 rw[rounds_succ];go_wp2
 go_ret
 exact ⟨rfl,rfl⟩
theorem rstore2 (b bf nf a v:Nat) (y0 y1:Value) (w:World) (h:w.cell? ⟨b,0,none⟩=some (.slice (some ⟨bf,0,none⟩) (64*nf) (64*nf))) (hn:nf≤1024) (ha:a+2≤64*nf) (hbb:b≠bf) (he:dk a 2 nf=0) (hv:v<4294967296)
  (c0:w.cell? ⟨bf,a,none⟩=some y0) (c1:w.cell? ⟨bf,a+1,none⟩=some y1) (f:∀ i,w.frozen? ⟨bf,i,none⟩=false) :
  Calls pQ 24 #[π (some ⟨b,0,none⟩),U κ (a:Int),U κ 2,U μ (v:Int)] w fun e w'=>e=ρ (U κ 0)∧((w.setCell ⟨bf,a,none⟩ (.int .u8 ((v:Int)%256))).setCell ⟨bf,a+1,none⟩ (.int .u8 ((v:Int) / 256%256)))=w':=by
 have HE:Hid (dk a 2 nf=0):=he
 clear he
 have i0:0≤(a:Int)∧(a:Int)<((64*nf:Nat):Int):=by omega
 have i1:0≤(a:Int)+1∧(a:Int)+1<((64*nf:Nat):Int):=by omega
 go_enter Tryz.func24,Tryz.ntmps24
 go_wp2_with (go_at_call 55;refine(m8 _ _ _ _ _ _ h HE).mono ?_;rintro e w' ⟨rfl,rfl⟩)
 refine wp_loop_rounds 3 ?_
 rw[rounds_succ];go_wp2
 rw[rounds_succ];go_wp2
 rw[rounds_succ];go_wp2
 go_ret
 exact ⟨rfl,rfl⟩
theorem rstore4 (b bf nf a v:Nat) (y0 y1 y2 y3:Value) (w:World) (h:w.cell? ⟨b,0,none⟩=some (.slice (some ⟨bf,0,none⟩) (64*nf) (64*nf))) (hn:nf≤1024) (ha:a+4≤64*nf) (hbb:b≠bf) (he:dk a 4 nf=0) (hv:v<4294967296)
  (c0:w.cell? ⟨bf,a,none⟩=some y0) (c1:w.cell? ⟨bf,a+1,none⟩=some y1) (c2:w.cell? ⟨bf,a+2,none⟩=some y2) (c3:w.cell? ⟨bf,a+3,none⟩=some y3) (f:∀ i,w.frozen? ⟨bf,i,none⟩=false) :
  Calls pQ 24 #[π (some ⟨b,0,none⟩),U κ (a:Int),U κ 4,U μ (v:Int)] w fun e w'=>e=ρ (U κ 0)∧((((w.setCell ⟨bf,a,none⟩ (.int .u8 ((v:Int)%256))).setCell ⟨bf,a+1,none⟩ (.int .u8 ((v:Int) / 256%256))).setCell ⟨bf,a+2,none⟩ (.int .u8 ((v:Int) / 256 / 256%256))).setCell ⟨bf,a+3,none⟩ (.int .u8 ((v:Int) / 256 / 256 / 256%256)))=w':=by
 have HE:Hid (dk a 4 nf=0):=he
 clear he
 have i0:0≤(a:Int)∧(a:Int)<((64*nf:Nat):Int):=by omega
 have i1:0≤(a:Int)+1∧(a:Int)+1<((64*nf:Nat):Int):=by omega
 have i2:0≤(a:Int)+2∧(a:Int)+2<((64*nf:Nat):Int):=by omega
 have i3:0≤(a:Int)+3∧(a:Int)+3<((64*nf:Nat):Int):=by omega
 go_enter Tryz.func24,Tryz.ntmps24
 go_wp2_with (go_at_call 55;refine(m8 _ _ _ _ _ _ h HE).mono ?_;rintro e w' ⟨rfl,rfl⟩)
 refine wp_loop_rounds 5 ?_
 rw[rounds_succ];go_wp2
 rw[rounds_succ];go_wp2
 rw[rounds_succ];go_wp2
 rw[rounds_succ];go_wp2
 rw[rounds_succ];go_wp2
 go_ret
 exact ⟨rfl,rfl⟩
theorem rstore_bad (b bf nf:Nat) (addr size v:Int) (w:World) (h:w.cell? ⟨b,0,none⟩=some (.slice (some ⟨bf,0,none⟩) (64*nf) (64*nf))) (he:dk addr size nf≠0) :
  Calls pQ 24 #[π (some ⟨b,0,none⟩),U κ addr,U κ size,U μ v] w fun e w'=>e=ρ (U κ (dk addr size nf))∧w=w':=by
 have hb:(dk addr size nf != 0)=true:=by simpa using he
 go_enter Tryz.func24,Tryz.ntmps24
 go_wp2_with (go_at_call 55;refine(wj _ _ _ _ _ _ h).mono ?_;rintro e w' ⟨rfl,rfl⟩)
 go_ret
 exact ⟨rfl,rfl⟩
theorem qk (w:World) (p bf nf:Nat) (bs:List UInt8) (addr size:Int) (v:Nat) (h:IsRef w p bf nf bs) (hv:v<4294967296) :
  Calls pQ 24 #[π (some ⟨p,0,none⟩),U κ addr,U κ size,U μ (v:Int)] w fun e w' =>
   e=ρ (U κ (dk addr size nf))∧Fr (at' bf) w w'∧IsRef w' p bf nf (kj bs addr size nf v):=by
 by_cases he:dk addr size nf=0
 ·obtain ⟨hs,ha,h0,h1⟩:=te he
  obtain ⟨a,rfl⟩:=Int.eq_ofNat_of_zero_le h0
  rw[Int.tmod_eq_emod_of_nonneg h0] at ha
  have hl:=h.len
  rw[kj,if_pos he,he,Int.toNat_natCast]
  rcases hs with rfl | rfl | rfl
  ·rw[show(1:Int).toNat=1 from rfl]
   refine(rstore1 p bf nf a v _ w h.hcell h.most (by omega) he hv (h.bcell a (by omega)) (fun i=>h.row.frozen i)).mono ?_
   rintro e w' ⟨rfl,rfl⟩
   refine ⟨rfl,cy _ _ _ _ (Fr.refl _ _),?_⟩
   simp only[l4,nh]
   exact lw h a v _ rfl
  ·rw[show(2:Int).toNat=2 from rfl]
   refine(rstore2 p bf nf a v _ _ w h.hcell h.most (by omega) h.apart he hv (h.bcell a (by omega)) (h.bcell (a+1) (by omega)) (fun i=>h.row.frozen i)).mono ?_
   rintro e w' ⟨rfl,rfl⟩
   refine ⟨rfl,cy _ _ _ _ (cy _ _ _ _ (Fr.refl _ _)),?_⟩
   simp only[l4,nh]
   exact lw (lw h a v _ rfl) (a+1) (v / 256) _ (by omega)
  ·rw[show(4:Int).toNat=4 from rfl]
   refine(rstore4 p bf nf a v _ _ _ _ w h.hcell h.most (by omega) h.apart he hv (h.bcell a (by omega)) (h.bcell (a+1) (by omega)) (h.bcell (a+2) (by omega)) (h.bcell (a+3) (by omega)) (fun i=>h.row.frozen i)).mono ?_
   rintro e w' ⟨rfl,rfl⟩
   refine ⟨rfl,cy _ _ _ _ (cy _ _ _ _ (cy _ _ _ _ (cy _ _ _ _ (Fr.refl _ _)))),?_⟩
   simp only[l4,nh]
   exact lw (lw (lw (lw h a v _ rfl) (a+1) (v / 256) _ (by omega)) (a+1+1) (v / 256 / 256) _ (by omega)) (a+1+1+1) (v / 256 / 256 / 256) _ (by omega)
 ·rw[kj,if_neg he]
  refine(rstore_bad p bf nf addr size v w h.hcell he).mono ?_
  rintro e w' ⟨rfl,rfl⟩
  exact ⟨rfl,Fr.refl _ _,h⟩
theorem rnew_ok (n:Nat) (w:World) (h1:1≤n) (h2:n≤1024) :
  Calls pQ 19 #[U κ (n:Int)] w fun e w'=>e=ρ (τ #[π (some ⟨w.heap.size+1,0,none⟩),U κ 0]) ∧
   (w.alloc (ω (cu (List.replicate ((n:Int)*64).toNat 0)) 5)).alloc (ω #[.slice (some ⟨w.heap.size,0,none⟩) ((n:Int)*64).toNat ((n:Int)*64).toNat] 139)=w':=by
 have hd:decide ((n:Int)<1)=false:=by simp;omega
 have hd2:decide (1024<(n:Int))=false:=by simp;omega
 have hmk:=make_bytes ((n:Int)*64) (by omega) (by omega)
 generalize cu (List.replicate ((n:Int)*64).toNat 0)=zs at *
 generalize ((n:Int)*64).toNat=q at *
 go_enter Tryz.func19,Tryz.ntmps19
 go_wp2
 go_ret2
 exact ⟨rfl,rfl⟩
theorem rnew_any (n:Int) (w:World) (h:1≤n∧n≤1024) :
  Calls pQ 19 #[U κ n] w fun e w'=>e=ρ (τ #[π (some ⟨w.heap.size+1,0,none⟩),U κ 0]) ∧
   Fr bg w w'∧IsRef w' (w.heap.size+1) w.heap.size n.toNat (List.replicate (64*n.toNat) 0):=by
 obtain ⟨m,rfl⟩:=Int.eq_ofNat_of_zero_le (show 0≤n by omega)
 rw[Int.toNat_natCast]
 refine(rnew_ok m w (by omega) (by omega)).mono ?_
 rintro e w' ⟨rfl,rfl⟩
 rw[show((m:Int)*64).toNat=64*m by omega]
 refine ⟨rfl,((Fr.refl _ w).alloc _).alloc _,?_,(ba _ _ _).alloc _,by simp,by omega,by omega⟩
 have:=ba (w.alloc (ω (cu (List.replicate (64*m) 0)) 5)) #[.slice (some ⟨w.heap.size,0,none⟩) (64*m) (64*m)] 139
 rwa [show(w.alloc (ω (cu (List.replicate (64*m) 0)) 5)).heap.size=w.heap.size+1 by simp] at this
theorem gy (w:World) (p bf nf:Nat) (bs:List UInt8) (h:IsRef w p bf nf bs) :
  Calls pQ 84 #[π (some ⟨p,0,none⟩)] w fun e w'=>e=ρ (U κ (nf:Int))∧w=w':=by
 have hc:=h.hcell
 have hm:=h.most
 clear h
 have hq:((64*nf:Nat):Int) / 64=nf:=by omega
 have hq':64*nf≤65536:=by omega
 generalize 64*nf=q at *
 have HQ:Hid ((q:Int) / 64=nf):=hq
 clear hq
 go_enter Tryz.func84,Tryz.ntmps84
 go_wp2
 go_ret
 exact ⟨ret_i64 HQ.out,rfl⟩
theorem there_yes (w:World) (p bf nf:Nat) (bs:List UInt8) (n:Int) (h:IsRef w p bf nf bs) (hn:0≤n) :
  Calls pQ 95 #[π (some ⟨p,0,none⟩),U κ n] w fun e w'=>e=ρ (β (decide (n<(nf:Int))))∧w'=w:=by
 have hc:=h.hcell
 have hm:=h.most
 clear h
 have hq:((64*nf:Nat):Int) / 64=nf:=by omega
 have hq':64*nf≤65536:=by omega
 generalize 64*nf=q at *
 rw[←hq]
 have HQ:Hid ((q:Int) / 64=nf):=hq
 clear hq
 go_enter Tryz.func95,Tryz.ntmps95
 go_wp2
 go_ret
 exact ⟨rfl,rfl⟩
theorem there_ok (w:World) (p bf nf:Nat) (bs:List UInt8) (n:Nat) (h:IsRef w p bf nf bs) (hn:n<nf) :
  Calls pQ 95 #[π (some ⟨p,0,none⟩),U κ (n:Int)] w fun e w'=>e=ρ (β true)∧w'=w:=by
 refine(there_yes w p bf nf bs n h (by omega)).mono ?_
 rintro e w' ⟨rfl,rfl⟩
 exact ⟨by rw[decide_eq_true (by omega)],rfl⟩
def Begins (w:World) (g:Nat) (d:List UInt8) (cap:Nat):Prop:=
 ∃ cs,Row w g cs 5∧cs.size=cap∧d.length≤cap∧cs.toList.take d.length=d.map U8
theorem Begins.src {w:World} {g cap:Nat} {d:List UInt8} (h:Begins w g d cap):Src w (some ⟨g,0,none⟩) d:=by
 intro _
 obtain ⟨cs,hr,hc,hl,ht⟩:=h
 refine ⟨_,rfl,fun j hj=>?_⟩
 rw[lh,Nat.zero_add,hr.cell]
 have h1:(cs.toList.take d.length)[j]? = some (U8 d[j]):=by rw[ht];simp[hj]
 rw[List.getElem?_take,if_pos hj] at h1
 simpa using h1
theorem begins_row {w:World} {g:Nat} {d:List UInt8} (h:Row w g (cu d) 5):Begins w g d d.length:=
 ⟨_,h,no d,Nat.le_refl _,by simp only[cu];exact List.take_of_length_le (by simp)⟩
structure Bytes (w:World) (sp:Option Addr) (m c:Nat) (data:List UInt8):Prop where
 len:data.length=m
 src:Src w sp data
 nil:sp=none→m=0∧c=0
theorem fr_of_grown {w w':World} {row:Option Nat} (h:w.grownBy w' row):Fr (fun k=>some k=row) w w':=
 ⟨h.os,h.tape,h.output,h.size,fun k hk hn=>h.block k hk hn⟩
theorem own_begins {w:World} {base:Nat} {v:Value} {d:List UInt8} (h:w.ownsRow base 5 1 v d.length (d.map U8)) (hv:v≠.slice none 0 0) :
  ∃ g cap,v=.slice (some ⟨g,0,none⟩) d.length cap∧base≤g∧Begins w g d cap∧cap≤maxLen:=by
 obtain ⟨_,h | ⟨g,cap,cur,hv',hb,hg,hl,hm,hs,ht⟩⟩:=h
 ·exact absurd h.1 hv
 ·exact ⟨g,cap,hv',hb,⟨cur,hg,by simpa using hs,hl,by simpa using ht⟩,hm⟩
theorem append_bytes (w:World) (ty:TypeId) (base:Nat) (v:Value) (d data:List UInt8) (sp:Option Addr) (m c:Nat) (ho:w.ownsRow base 5 1 v d.length (d.map U8)) (hb:Bytes w sp m c data)
  (hm:d.length+m≤140737488355328) (hbase:base≤w.heap.size) :
  ∃ v' w',(Builtin.append_ #[123,123] ty #[v,.slice sp m c]).run pQ w=.ok v' w'∧w'.ownsRow base 5 1 v' (d ++ data).length ((d ++ data).map U8)∧Fr (fun k=>some k=v.ownBlock) w w' ∧
   (v'=.slice none 0 0 ↔ v=.slice none 0 0∧m=0):=by
 have hi:=info5
 cases hq:Tryz.prog.info? 5 with
 | none=>simp[hq] at hi
 | some i =>
  rw[hq] at hi
  simp only[Option.map_some,Option.some.injEq,Prod.mk.injEq] at hi
  obtain ⟨hz,hby,hs⟩:=hi
  have hl:=hb.len
  cases sp with
  | none =>
   obtain ⟨rfl,rfl⟩:=hb.nil rfl
   have e:=List.eq_nil_of_length_eq_zero hl
   subst e
   have hrun:=run_append_owned_none (P:=pQ) (w:=w) base 123 ty 5 i 1 Tryz.underlying123 hq v _ _ ho
   exact ⟨v,w,hrun,by simpa using ho,Fr.refl _ _,by simp⟩
  | some a =>
   obtain ⟨v',w',h1,h2,h3,h4⟩:=run_append_own (P:=pQ) w base 123 ty 5 i _ 1 1 Tryz.underlying123 hq hz hs hby rfl (by omega) v _ _ ho a m c (data.map U8) (by simp[hl])
    (fun j u hu=>by
     rw[List.getElem?_map] at hu
     cases hd:data[j]? with
     | none=>simp[hd] at hu
     | some x =>
      obtain ⟨hj,hx⟩:=List.getElem?_eq_some_iff.1 hd
      simp[hd] at hu
      obtain ⟨a',ha',hc⟩:=hb.src (by omega)
      obtain rfl:=Option.some.inj ha'
      rw[hc j hj,hx,hu])
    (fun v hv=>by obtain ⟨x,_,rfl⟩:=List.mem_map.1 hv;exact one_U8 x) (by simp only[maxLen];omega) (by omega) hbase
   refine ⟨v',w',h1,?_,fr_of_grown h3,h4⟩
   rw[List.length_append,List.map_append,hl]
   exact h2
theorem append_fresh (w:World) (ty:TypeId) (sp:Option Addr) (m c:Nat) (data:List UInt8) (hb:Bytes w sp m c data) (hm:m≤140737488355328) :
  ∃ g cap w',(Builtin.append_ #[123,123] ty #[.slice (some ⟨w.heap.size,0,none⟩) 0 0,.slice sp m c]).run pQ (w.alloc (ω #[] 5))=.ok (.slice (some ⟨g,0,none⟩) m cap) w' ∧
   w.heap.size≤g∧Fr bg w w'∧Begins w' g data cap:=by
 have ho:=World.ownsRow_made (e:=5) (size:=1) w #[] 0 (Nat.le_refl _) (by simp[maxLen]) rfl
 have f0:Fr bg w (w.alloc (ω #[] 5)):=(Fr.refl _ w).alloc _
 have hb':Bytes (w.alloc (ω #[] 5)) sp m c data:=⟨hb.len,fun hp=>by
  obtain ⟨a,ha,hc⟩:=hb.src hp
  refine ⟨a,ha,fun j hj=>?_⟩
  have:=hc j hj
  exact Lib.cell?_alloc_some _ this,hb.nil⟩
 obtain ⟨v',w',h1,h2,h3,h4⟩:=append_bytes (w.alloc (ω #[] 5)) ty w.heap.size _ [] data sp m c ho hb' (by simpa using hm) (by simp)
 have hne:v'≠.slice none 0 0:=fun e=>by have:=(h4.1 e).1;simp at this
 obtain ⟨g,cap,e,hg,hB,_⟩:=own_begins h2 hne
 rw[List.nil_append] at e hB
 subst e
 rw[hb.len] at h1
 refine ⟨g,cap,w',h1,hg,f0.newer (b:=w.heap.size) (h3.mono fun k _ hk=>?_) (Nat.le_refl _),hB⟩
 have hk':some k=some w.heap.size:=hk
 exact Option.some.inj hk'
theorem IsRef.drew {w:World} {p bf nf:Nat} {bs:List UInt8} (h:IsRef w p bf nf bs):IsRef w.drew p bf nf bs:=⟨h.head,h.row,h.len,h.most,h.apart⟩
theorem tt {P:Program} {w:World} {ops:Array Oper} {rest:List Oper} {o:Oper} {a:Act} {Q:Exit→Act→World→Prop} (hgd:o.guard=none) (s x:Operand) (t:TypeId)
  (ho:o.op=.call { callee:=.builtin .append,args:=#[s,x],argTypes:=#[t,t] }) (vs vx:Value) (hs:a.eval s=vs) (hx:a.eval x=vx) (v':Value) (w':World)
  (hrun:(Builtin.append_ #[t,t] o.type #[vs,vx]).run P w=.ok v' w') (h:wpList P ops Q rest (a.put o.dst v') w'):wpList P ops Q (o :: rest) a w:=by
 refine wpList_plain hgd fun K hK=>?_
 unfold Oper.wp
 simp[execOp,ho,resolve,invoke,builtin,hs,hx,hrun,Result.andThen]
 exact hK _ _ h
theorem bytes_frame {w:World} {p bf nf:Nat} {bs:List UInt8} (h:IsRef w p bf nf bs) (n:Nat) (hn:n<nf) (c m:Nat) (hm:m=64):Bytes w (some ⟨bf,64*n,none⟩) m c (le bs n):=by
 have hl:=ko bs n nf h.len hn
 have hle:=h.len
 refine ⟨by rw[hl,hm],fun _=>⟨_,rfl,fun j hj=>?_⟩,fun e=>by simp at e⟩
 rw[lh,h.row.cell,mf bs _ (by omega),yi bs n nf j h.len hn]
 simp only[Nat.mul_comm]
theorem ret_slice_len {g a b c:Nat} {e:Int} (h:a=b):Ending.returned (τ #[.slice (some ⟨g,0,none⟩) a c,U κ e])=ρ (τ #[.slice (some ⟨g,0,none⟩) b c,U κ e]):=by rw[h]
theorem rframe_ok (w:World) (p bf nf:Nat) (bs:List UInt8) (n:Nat) (h:IsRef w p bf nf bs) (hn:n<nf) :
  Calls pQ 43 #[π (some ⟨p,0,none⟩),U κ (n:Int)] w fun e w'=>∃ g cap,e=ρ (τ #[.slice (some ⟨g,0,none⟩) 64 cap,U κ 0])∧w.heap.size≤g∧Fr bg w w'∧Begins w' g (le bs n) cap:=by
 have hm:=h.most
 have i1:0≤64*(n:Int):=by omega
 have i2:64*(n:Int)≤64*(n:Int)+64:=by omega
 have i3:64*(n:Int)+64≤((64*nf:Nat):Int):=by omega
 have c1:=(h.keep ((Fr.refl bg w).alloc (ω #[] 5)) (fun h=>h) (fun h=>h)).hcell
 obtain ⟨g,cap,w2,hrun,hg,f2,b2⟩:=append_fresh w 123 _ (64*n+64-64*n) (64*nf-64*n) _ (bytes_frame h n hn (64*nf-64*n) (64*n+64-64*n) (by omega)) (by omega)
 have HR:=hrun
 have HQ:Hid (w.heap.size≤g∧Fr bg w w2∧Begins w2 g (le bs n) cap):=⟨hg,f2,b2⟩
 replace HR:Hid ((Builtin.append_ #[123,123] 123 #[.slice (some ⟨w.heap.size,0,none⟩) 0 0,.slice (some ⟨bf,64*n,none⟩) (64*n+64-64*n) (64*nf-64*n)]).run pQ (w.alloc (ω #[] 5))=.ok (.slice (some ⟨g,0,none⟩) (64*n+64-64*n) cap) w2):=hrun
 clear hrun hg f2 b2
 go_enter Tryz.func43,Tryz.ntmps43
 go_wp2_with (first | (go_at_call 95;refine(there_ok _ _ _ _ _ _ h hn).mono ?_;rintro e w' ⟨rfl,rfl⟩) | (at_builtin;refine tt rfl _ _ _ rfl _ _ rfl rfl _ _ HR ?_))
 go_ret2
 exact ⟨g,cap,ret_slice_len (by omega),HQ⟩
structure Twin (w:World) (B pm bm pr br nf:Nat) (bs:List UInt8):Prop where
 ram:IsRam w pm bm nf bs
 ref:IsRef w pr br nf bs
 d1:pm≠br
 d2:pr≠bm
 d3:bm≠br
 lo:B≤pm∧B≤bm∧B≤pr∧B≤br
theorem Twin.keep {S:Nat→Prop} {w w':World} {B pm bm pr br nf:Nat} {bs:List UInt8} (h:Twin w B pm bm pr br nf bs) (f:Fr S w w') (h1:¬ S pm) (h2:¬ S bm) (h3:¬ S pr) (h4:¬ S br):Twin w' B pm bm pr br nf bs:=
 ⟨h.ram.keep f h1 h2,h.ref.keep f h3 h4,h.d1,h.d2,h.d3,h.lo⟩
theorem Twin.keep0 {w w':World} {B pm bm pr br nf:Nat} {bs:List UInt8} (h:Twin w B pm bm pr br nf bs) (f:Fr bg w w'):Twin w' B pm bm pr br nf bs:=
 h.keep f id id id id
theorem Twin.step {w w1 w2:World} {B pm bm pr br nf:Nat} {bs bs':List UInt8} (h:Twin w B pm bm pr br nf bs) (f1:Fr (at' bm) w w1) (r1:IsRam w1 pm bm nf bs') (f2:Fr (at' br) w1 w2) (r2:IsRef w2 pr br nf bs') :
  Twin w2 B pm bm pr br nf bs'∧Fr (two bm br) w w2:=
 ⟨⟨r1.keep f2 h.d1 h.d3,r2,h.d1,h.d2,h.d3,h.lo⟩,(f1.mono fun _ _ e=>Or.inl e).trans (f2.mono fun _ _ e=>Or.inr e)⟩
def Over (w:World) (b n:Nat):Prop:=∃ cs,Row w b cs 5∧cs.size=n
theorem Fr.own {w w1 w2:World} {bm br:Nat} (f:Fr bg w w1) (g:Fr (two bm br) w1 w2) (h1:w.heap.size≤bm) (h2:w.heap.size≤br):Fr bg w w2:=
 ⟨g.os.trans f.os,g.tape.trans f.tape,g.output.trans f.output,Nat.le_trans f.size g.size,fun i hi hn=>(g.block i (Nat.lt_of_lt_of_le hi f.size) (fun e=>by rcases e with e | e <;> omega)).trans (f.block i hi hn)⟩
theorem twin_new {w w1 w2:World} {B nf:Nat} {bs:List UInt8} (hB:B≤w.heap.size) (r1:IsRam w1 (w.heap.size+1) w.heap.size nf bs) (f2:Fr bg w1 w2) (r2:IsRef w2 (w1.heap.size+1) w1.heap.size nf bs) :
  Twin w2 B (w.heap.size+1) w.heap.size (w1.heap.size+1) w1.heap.size nf bs:=by
 have h1:=r1.head.lt
 exact ⟨r1.keep f2 id id,r2,by omega,by omega,by omega,by omega,by omega,by omega,by omega⟩
theorem w6 (w:World) (p bf nf:Nat) (bs:List UInt8) (t i:Nat) (h:IsRef w p bf nf bs) (ht:t<nf) (hi:i<32) :
  Calls pQ 52 #[π (some ⟨p,0,none⟩),U κ (t:Int),U κ (i:Int)] w fun e w'=>e=ρ (U κ 0)∧w=w':=by
 have t1:decide ((i:Int)<0)=false:=by simp
 have t2:decide (32≤(i:Int))=false:=by simp;omega
 have t3:decide ((t:Int)<0)=false:=by simp
 have t4:decide ((nf:Int)≤(t:Int))=false:=by simp;omega
 go_enter Tryz.func52,Tryz.ntmps52
 go_wp2_with (go_at_call 84;refine(gy _ _ _ _ _ h).mono ?_;rintro e w' ⟨rfl,rfl⟩)
 go_ret
 exact ⟨rfl,rfl⟩
theorem rplace_bad (w:World) (p bf nf:Nat) (bs:List UInt8) (t i:Int) (h:IsRef w p bf nf bs) (he:kn t i nf≠0) :
  Calls pQ 52 #[π (some ⟨p,0,none⟩),U κ t,U κ i] w fun e w'=>e=ρ (U κ (kn t i nf))∧w=w':=by
 unfold kn at he ⊢
 by_cases a:i<0
 ·have t1:decide (i<0)=true:=by simpa using a
  rw[if_pos (Or.inl a)]
  clear he a
  go_enter Tryz.func52,Tryz.ntmps52
  go_wp2
  go_ret
  exact ⟨rfl,rfl⟩
 by_cases b:31<i
 ·have t1:decide (i<0)=false:=by simpa using a
  have t2:decide (32≤i)=true:=by simp;omega
  rw[if_pos (Or.inr b)]
  clear he a b
  go_enter Tryz.func52,Tryz.ntmps52
  go_wp2
  go_ret
  exact ⟨rfl,rfl⟩
 have t1:decide (i<0)=false:=by simpa using a
 have t2:decide (32≤i)=false:=by simp;omega
 rw[if_neg (by omega)] at he ⊢
 clear a b
 by_cases c:t<0
 ·have t3:decide (t<0)=true:=by simpa using c
  rw[if_pos (Or.inl c)]
  clear he c
  go_enter Tryz.func52,Tryz.ntmps52
  go_wp2
  go_ret
  exact ⟨rfl,rfl⟩
 by_cases d:(nf:Int)≤t
 ·have t3:decide (t<0)=false:=by simpa using c
  have t4:decide ((nf:Int)≤t)=true:=by simpa using d
  rw[if_pos (Or.inr d)]
  clear he c d
  go_enter Tryz.func52,Tryz.ntmps52
  go_wp2_with (go_at_call 84;refine(gy _ _ _ _ _ h).mono ?_;rintro e w' ⟨rfl,rfl⟩)
  go_ret
  exact ⟨rfl,rfl⟩
 ·rw[if_neg (by omega)] at he;omega
theorem rload_half (w:World) (p bf nf:Nat) (bs:List UInt8) (t i:Nat) (h:IsRef w p bf nf bs) (ht:t<nf) (hi:i<32) :
  Calls pQ 30 #[π (some ⟨p,0,none⟩),U κ (64*(t:Int)+2*(i:Int)),U κ 2] w fun e w'=>e=ρ (τ #[U μ ((cc bs t i:Nat):Int),U κ 0])∧w'=w:=by
 have e0:=qx t i nf ht hi
 have:=la w p bf nf bs ((t*64+i*2:Nat):Int) 2 h
 rw[j5,if_pos e0,e0,Int.toNat_natCast,show(2:Int).toNat=2 from rfl] at this
 rw[show 64*(t:Int)+2*(i:Int)=((t*64+i*2:Nat):Int) by omega]
 exact this
theorem rstore_half (w:World) (p bf nf:Nat) (bs:List UInt8) (t i v:Nat) (h:IsRef w p bf nf bs) (ht:t<nf) (hi:i<32) (hv:v<65536) :
  Calls pQ 24 #[π (some ⟨p,0,none⟩),U κ (64*(t:Int)+2*(i:Int)),U κ 2,U μ (v:Int)] w fun e w'=>e=ρ (U κ 0)∧Fr (at' bf) w w'∧IsRef w' p bf nf (nh bs (t*64+i*2) (l4 2 v)):=by
 have e0:=qx t i nf ht hi
 have:=qk w p bf nf bs ((t*64+i*2:Nat):Int) 2 v h (by omega)
 rw[kj,if_pos e0,e0,Int.toNat_natCast,show(2:Int).toNat=2 from rfl] at this
 rw[show 64*(t:Int)+2*(i:Int)=((t*64+i*2:Nat):Int) by omega]
 exact this
theorem py (w:World) (p bf nf:Nat) (bs:List UInt8) (t i:Nat) (h:IsRef w p bf nf bs) (ht:t<nf) (hi:i<32) :
  Calls pQ 179 #[π (some ⟨p,0,none⟩),U κ (t:Int),U κ (i:Int)] w fun e w' =>
   e=ρ (τ #[.agg #[β (dv (cc bs t i)),β (dl (cc bs t i)),U κ (dr (cc bs t i)),U κ (df (cc bs t i))],U κ (de (cc bs t i))])∧Fr bg w w':=by
 have hm:=h.most
 have f0:=(Fr.refl bg w).alloc (ω (jh false false 0 0) 77)
 have r0:=ba w (jh false false 0 0) 77
 have h0:=h.keep f0 (fun h=>h) (fun h=>h)
 have hl:=half_lt bs t i
 unfold jh at f0 h0
 go_enter Tryz.func179,Tryz.ntmps179
 go_wp2_with fail
 refine(w6 _ _ _ _ _ _ _ h0 ht hi).mono ?_
 rintro e w1 ⟨rfl,rfl⟩
 go_wp2_with fail
 refine(rload_half _ _ _ _ _ _ _ h0 ht hi).mono ?_
 rintro e w1 ⟨rfl,rfl⟩
 go_wp2_with fail
 refine(rdec_any _ _ hl).mono ?_
 rintro e w2 ⟨rfl,f2⟩
 have r2:=r0.keep f2 (fun h=>h)
 replace f2:=f0.trans f2
 clear r0 f0 h0
 obtain ⟨c0,c1,c2,c3⟩:=du r2
 obtain ⟨k0,k1,k2,k3⟩:=dy r2
 go_wp2_with fail
 refine bodyPost_ret (cw rfl rfl (jl r2) rfl) rfl ?_
 exact ⟨rfl,kg f2 (Or.inl (Nat.le_refl _))⟩
theorem rput_bad (w:World) (p bf nf:Nat) (bs:List UInt8) (t i:Int) (v l:Bool) (r f:Int) (h:IsRef w p bf nf bs) (he:kn t i nf≠0) :
  Calls pQ 22 #[π (some ⟨p,0,none⟩),U κ t,U κ i,.agg #[β v,β l,U κ r,U κ f]] w fun e w'=>e=ρ (U κ (kn t i nf))∧Fr bg w w':=by
 have f0:=(Fr.refl bg w).alloc (ω (jh v l r f) 77)
 have h0:=h.keep f0 (fun h=>h) (fun h=>h)
 have hb:(kn t i nf != 0)=true:=by simpa using he
 have HE:Hid (kn t i nf≠0):=he
 clear he
 unfold jh at f0 h0
 go_enter Tryz.func22,Tryz.ntmps22
 go_wp2_with fail
 refine(rplace_bad _ _ _ _ _ _ _ h0 HE).mono ?_
 rintro e w1 ⟨rfl,rfl⟩
 go_wp2_with fail
 go_ret
 exact ⟨rfl,f0⟩
theorem rput_wrong (w:World) (p bf nf:Nat) (bs:List UInt8) (t i:Nat) (v l:Bool) (r f:Int) (h:IsRef w p bf nf bs) (ht:t<nf) (hi:i<32) (hr:cj v l r f=false) :
  Calls pQ 22 #[π (some ⟨p,0,none⟩),U κ (t:Int),U κ (i:Int),.agg #[β v,β l,U κ r,U κ f]] w fun e w'=>e=ρ (U κ 20)∧Fr bg w w':=by
 have f0:=(Fr.refl bg w).alloc (ω (jh v l r f) 77)
 have h0:=h.keep f0 (fun h=>h) (fun h=>h)
 unfold jh at f0 h0
 go_enter Tryz.func22,Tryz.ntmps22
 go_wp2_with fail
 refine(w6 _ _ _ _ _ _ _ h0 ht hi).mono ?_
 rintro e w1 ⟨rfl,rfl⟩
 go_wp2_with fail
 refine(renc_bad _ _ _ _ _ hr).mono ?_
 rintro e w2 ⟨rfl,f2⟩
 replace f2:=f0.trans f2
 clear f0 h0
 go_wp2_with fail
 go_ret
 exact ⟨rfl,f2⟩
theorem rput_ok (w:World) (p bf nf:Nat) (bs:List UInt8) (t i x:Nat) (v l:Bool) (r f:Int) (h:IsRef w p bf nf bs) (ht:t<nf) (hi:i<32) (hr:cj v l r f=true) (hx:ky v l r f=(x:Int)) (hx':x<65536) :
  Calls pQ 22 #[π (some ⟨p,0,none⟩),U κ (t:Int),U κ (i:Int),.agg #[β v,β l,U κ r,U κ f]] w fun e w'=>e=ρ (U κ 0)∧Fr (at' bf) w w'∧IsRef w' p bf nf (nh bs (t*64+i*2) (l4 2 x)):=by
 have hm:=h.most
 have f0:=(Fr.refl bg w).alloc (ω (jh v l r f) 77)
 have h0:=h.keep f0 (fun h=>h) (fun h=>h)
 have HX:Hid (ky v l r f=(x:Int)):=hx
 clear hx
 unfold jh at f0 h0
 go_enter Tryz.func22,Tryz.ntmps22
 go_wp2_with fail
 refine(w6 _ _ _ _ _ _ _ h0 ht hi).mono ?_
 rintro e w1 ⟨rfl,rfl⟩
 go_wp2_with fail
 refine(renc_ok _ _ _ _ _ hr).mono ?_
 rintro e w2 ⟨rfl,f2⟩
 rw[HX.out]
 have h2:=h0.keep f2 (fun h=>h) (fun h=>h)
 replace f2:=f0.trans f2
 clear f0 h0
 go_wp2_with fail
 refine(rstore_half _ _ _ _ _ _ _ _ h2 ht hi hx').mono ?_
 rintro e w3 ⟨rfl,f3,h3⟩
 replace f3:=(f2.mono (T:=at' bf) fun _ _ e=>e.elim).trans f3
 clear f2 h2
 go_wp2_with fail
 go_ret
 exact ⟨rfl,f3,h3⟩
theorem rput_any (w:World) (p bf nf:Nat) (bs:List UInt8) (t i:Int) (v l:Bool) (r f:Int) (h:IsRef w p bf nf bs) :
  Calls pQ 22 #[π (some ⟨p,0,none⟩),U κ t,U κ i,.agg #[β v,β l,U κ r,U κ f]] w fun e w' =>
   e=ρ (U κ (putE t i nf v l r f))∧Fr (at' bf) w w'∧IsRef w' p bf nf (putB bs t i nf v l r f):=by
 unfold putE putB
 by_cases he:kn t i nf=0
 ·rw[if_pos he]
  obtain ⟨t,i,rfl,rfl,ht,hi⟩:=xm he
  by_cases hr:cj v l r f=true
  ·rw[if_pos ⟨he,hr⟩,encE,if_pos hr,Int.toNat_natCast,Int.toNat_natCast]
   have hb:=wl hr
   exact rput_ok w p bf nf bs t i (ky v l r f).toNat v l r f h ht hi hr (by omega) (by omega)
  ·rw[if_neg (fun e=>hr e.2),encE,if_neg hr]
   refine(rput_wrong w p bf nf bs t i v l r f h ht hi (by simpa using hr)).mono ?_
   rintro e w' ⟨rfl,f1⟩
   exact ⟨rfl,f1.mono fun _ _ e=>e.elim,h.keep f1 (fun h=>h) (fun h=>h)⟩
 ·rw[if_neg he,if_neg (fun e=>he e.1)]
  refine(rput_bad w p bf nf bs t i v l r f h he).mono ?_
  rintro e w' ⟨rfl,f1⟩
  exact ⟨rfl,f1.mono fun _ _ e=>e.elim,h.keep f1 (fun h=>h) (fun h=>h)⟩
end Go.Proofs.YtibhbjbpodlpiaaGreat
