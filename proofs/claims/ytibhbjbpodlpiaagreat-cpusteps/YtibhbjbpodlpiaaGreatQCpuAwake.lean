/-
  Contracts over the translation. No statement is proved here.
-/
import Derived.Test.YtibhbjbpodlpiaaGreatQCpuExample
set_option maxRecDepth 100000
set_option maxHeartbeats 8000000
namespace Go.Proofs.YtibhbjbpodlpiaaGreat
open Go.RowKit
open Go.Value renaming int → U, bool → β, pointer → π, tuple → τ
open Go.IntKind renaming i64 → κ, u32 → μ
open Go.Obj renaming cells → ω
open Go.Ending renaming returned → ρ
open Go.Proofs.Tryz renaming prog → pQ
theorem cpA_eq (c:Cp):cpA c=#[U μ ((c.r 0:Nat):Int),U μ ((c.r 1:Nat):Int),U μ ((c.r 2:Nat):Int),U μ ((c.r 3:Nat):Int),U μ ((c.r 4:Nat):Int),U μ ((c.r 5:Nat):Int),U μ ((c.r 6:Nat):Int),U μ ((c.r 7:Nat):Int),U μ ((c.r 8:Nat):Int),U μ ((c.r 9:Nat):Int),U μ ((c.r 10:Nat):Int),U μ ((c.r 11:Nat):Int),U μ ((c.r 12:Nat):Int),U μ ((c.r 13:Nat):Int),U μ ((c.r 14:Nat):Int),U μ ((c.r 15:Nat):Int),U κ c.pc,U μ ((c.s 0:Nat):Int),U μ ((c.s 1:Nat):Int),U μ ((c.s 2:Nat):Int),U μ ((c.s 3:Nat):Int),U μ ((c.s 4:Nat):Int),U μ ((c.s 5:Nat):Int),U μ ((c.s 6:Nat):Int),U μ ((c.s 7:Nat):Int)]:=rfl
theorem zcA_eq:cpA zc=#[U μ 0,U μ 0,U μ 0,U μ 0,U μ 0,U μ 0,U μ 0,U μ 0,U μ 0,U μ 0,U μ 0,U μ 0,U μ 0,U μ 0,U μ 0,U μ 0,U κ 0,U μ 0,U μ 0,U μ 0,U μ 0,U μ 0,U μ 0,U μ 0,U μ 0]:=rfl
theorem inA_eq:cpA (zc.setR 1 64)=#[U μ 0,U μ 64,U μ 0,U μ 0,U μ 0,U μ 0,U μ 0,U μ 0,U μ 0,U μ 0,U μ 0,U μ 0,U μ 0,U μ 0,U μ 0,U μ 0,U κ 0,U μ 0,U μ 0,U μ 0,U μ 0,U μ 0,U μ 0,U μ 0,U μ 0]:=rfl
theorem exStep (w:World) (B:Bm) (bs:List UInt8) (g:Bool) (c:Cp) (A:Array Value) (hA:cpA c=A) (hok:c.Ok) (hM:IsMc w B 16 (M0 bs g)) :
  Calls pQ 6 #[.agg #[π (some ⟨B.p,0,none⟩),π (some ⟨B.bt,0,none⟩),gu (B.v.map Bk.b)],.agg A,U κ 1,U κ 3,U κ 0] w fun e w'=>∃ (c':Cp) (T:Tr),c'=(dx 16 (M0 bs g) c 1 3 0).2.1∧T=(dx 16 (M0 bs g) c 1 3 0).2.2∧e=ρ (τ #[.agg #[U μ ((c'.r 0:Nat):Int),U μ ((c'.r 1:Nat):Int),U μ ((c'.r 2:Nat):Int),U μ ((c'.r 3:Nat):Int),U μ ((c'.r 4:Nat):Int),U μ ((c'.r 5:Nat):Int),U μ ((c'.r 6:Nat):Int),U μ ((c'.r 7:Nat):Int),U μ ((c'.r 8:Nat):Int),U μ ((c'.r 9:Nat):Int),U μ ((c'.r 10:Nat):Int),U μ ((c'.r 11:Nat):Int),U μ ((c'.r 12:Nat):Int),U μ ((c'.r 13:Nat):Int),U μ ((c'.r 14:Nat):Int),U μ ((c'.r 15:Nat):Int),U κ c'.pc,U μ ((c'.s 0:Nat):Int),U μ ((c'.s 1:Nat):Int),U μ ((c'.s 2:Nat):Int),U μ ((c'.s 3:Nat):Int),U μ ((c'.s 4:Nat):Int),U μ ((c'.s 5:Nat):Int),U μ ((c'.s 6:Nat):Int),U μ ((c'.s 7:Nat):Int)],.agg #[U κ T.ca,U κ T.nu,U κ T.ad,U κ T.f.k,U κ T.f.s,U κ T.f.l,β T.f.wk,U κ T.f.p]])∧Fr B.s w w'∧IsMc w' B 16 (dx 16 (M0 bs g) c 1 3 0).1:=by
 subst hA
 exact(Step_any w B 16 (M0 bs g) c hok 1 3 0 hM (M0_few bs g) (by decide)).mono (fun e w' ⟨a,f,m,_⟩=>⟨_,_,rfl,rfl,a,f,m⟩)
theorem qu {w w':World} {B C:Bm} {nf:Nat} {M:Mc} (h:IsMc w B nf M) (f:Fr C.s w w') (h1:∀ k,(B.s k∨k=B.p)→¬ C.s k):IsMc w' B nf M:=
 h.keep f (h1 _ (Or.inr rfl)) (h1 _ (Or.inl (Or.inl rfl))) (h1 _ (Or.inl (Or.inr (Or.inl rfl)))) (fun k hk=>h1 k (Or.inl (Or.inr (Or.inr hk))))
theorem enc_a:kp 1 1 0 0 300=((17826092:Nat):Int):=by decide +kernel
theorem tr_a:(dx 16 (M0 (exB 17826092) false) zc 1 3 0).2.2.ca=0∧(dx 16 (M0 (exB 17826092) false) zc 1 3 0).2.2.nu=0∧(dx 16 (M0 (exB 17826092) false) zc 1 3 0).2.2.ad=0∧(dx 16 (M0 (exB 17826092) false) zc 1 3 0).2.2.f.k=0∧(dx 16 (M0 (exB 17826092) false) zc 1 3 0).2.2.f.s=0∧(dx 16 (M0 (exB 17826092) false) zc 1 3 0).2.2.f.l=0∧(dx 16 (M0 (exB 17826092) false) zc 1 3 0).2.2.f.wk=false∧(dx 16 (M0 (exB 17826092) false) zc 1 3 0).2.2.f.p=0:=by decide +kernel
theorem re_a:(dx 16 (M0 (exB 17826092) false) zc 1 3 0).2.1.r 1=300∧(dx 16 (M0 (exB 17826092) false) zc 1 3 0).2.1.pc=4:=by decide +kernel
theorem enc_b:kp 7 2 1 0 0=((119603200:Nat):Int):=by decide +kernel
theorem tr_b:(dx 16 (M0 (exB 119603200) false) (zc.setR 1 64) 1 3 0).2.2.ca=0∧(dx 16 (M0 (exB 119603200) false) (zc.setR 1 64) 1 3 0).2.2.nu=0∧(dx 16 (M0 (exB 119603200) false) (zc.setR 1 64) 1 3 0).2.2.ad=0∧(dx 16 (M0 (exB 119603200) false) (zc.setR 1 64) 1 3 0).2.2.f.k=0∧(dx 16 (M0 (exB 119603200) false) (zc.setR 1 64) 1 3 0).2.2.f.s=0∧(dx 16 (M0 (exB 119603200) false) (zc.setR 1 64) 1 3 0).2.2.f.l=0∧(dx 16 (M0 (exB 119603200) false) (zc.setR 1 64) 1 3 0).2.2.f.wk=false∧(dx 16 (M0 (exB 119603200) false) (zc.setR 1 64) 1 3 0).2.2.f.p=0:=by decide +kernel
theorem re_b:(dx 16 (M0 (exB 119603200) false) (zc.setR 1 64) 1 3 0).2.1.r 2=77:=by decide +kernel
theorem enc_c:kp 17 0 0 0 3=((285212675:Nat):Int):=by decide +kernel
theorem tr_c:(dx 16 (M0 (exB 285212675) false) zc 1 3 0).2.2.ca=8∧(dx 16 (M0 (exB 285212675) false) zc 1 3 0).2.2.nu=285212675∧(dx 16 (M0 (exB 285212675) false) zc 1 3 0).2.2.ad=0∧(dx 16 (M0 (exB 285212675) false) zc 1 3 0).2.2.f.k=0∧(dx 16 (M0 (exB 285212675) false) zc 1 3 0).2.2.f.s=0∧(dx 16 (M0 (exB 285212675) false) zc 1 3 0).2.2.f.l=0∧(dx 16 (M0 (exB 285212675) false) zc 1 3 0).2.2.f.wk=false∧(dx 16 (M0 (exB 285212675) false) zc 1 3 0).2.2.f.p=0:=by decide +kernel
theorem enc_d:kp 17 0 0 0 3=((285212675:Nat):Int):=by decide +kernel
theorem tr_d:(dx 16 (M0 (exB 285212675) true) zc 1 3 0).2.2.ca=5∧(dx 16 (M0 (exB 285212675) true) zc 1 3 0).2.2.nu=3∧(dx 16 (M0 (exB 285212675) true) zc 1 3 0).2.2.ad=0∧(dx 16 (M0 (exB 285212675) true) zc 1 3 0).2.2.f.k=0∧(dx 16 (M0 (exB 285212675) true) zc 1 3 0).2.2.f.s=0∧(dx 16 (M0 (exB 285212675) true) zc 1 3 0).2.2.f.l=0∧(dx 16 (M0 (exB 285212675) true) zc 1 3 0).2.2.f.wk=false∧(dx 16 (M0 (exB 285212675) true) zc 1 3 0).2.2.f.p=0:=by decide +kernel
theorem exmade_f (w:World) (a0 a1:Option Addr) (W:Nat) (hP:Pus w a0 3 exP) (hQ:Wos w a1 2 (exQ W)) :
  Calls pQ 5 #[.agg #[.slice a0 3 3,.slice a1 2 2,β false,U κ 1,U κ 3]] w fun e w'=>∃ O:Bo,O.B.v=none∧e=ρ (τ #[.agg #[π (some ⟨O.B.p,0,none⟩),π (some ⟨O.B.bt,0,none⟩),π none,π (some ⟨O.pr,0,none⟩),π (some ⟨O.bu,0,none⟩),π none],β true])∧Fr bg w w'∧IsBo w' w.heap.size O (M0 (exB W) false):=by
 refine(exmade_any w a0 a1 false W hP hQ).mono ?_
 rintro e w' ⟨O,rfl,f,h⟩
 have h1:=h.m.vg
 have h2:=h.v
 obtain ⟨⟨p,bf,bt,v⟩,pr,br,bu,vr⟩:=O
 cases v with
 | none =>
  cases vr with
  | none=>exact ⟨_,rfl,rfl,f,h⟩
  | some b=>exact h2.elim
 | some b=>exact h1.elim
theorem exmade_t (w:World) (a0 a1:Option Addr) (W:Nat) (hP:Pus w a0 3 exP) (hQ:Wos w a1 2 (exQ W)) :
  Calls pQ 5 #[.agg #[.slice a0 3 3,.slice a1 2 2,β true,U κ 1,U κ 3]] w fun e w'=>∃ (O:Bo) (b:Bk) (vr:Nat),O.B.v=some b∧e=ρ (τ #[.agg #[π (some ⟨O.B.p,0,none⟩),π (some ⟨O.B.bt,0,none⟩),π (some ⟨b.b,0,none⟩),π (some ⟨O.pr,0,none⟩),π (some ⟨O.bu,0,none⟩),π (some ⟨vr,0,none⟩)],β true])∧Fr bg w w'∧IsBo w' w.heap.size O (M0 (exB W) true):=by
 refine(exmade_any w a0 a1 true W hP hQ).mono ?_
 rintro e w' ⟨O,rfl,f,h⟩
 have h1:=h.m.vg
 have h2:=h.v
 obtain ⟨⟨p,bf,bt,v⟩,pr,br,bu,vr⟩:=O
 cases v with
 | none=>exact h1.elim
 | some b =>
  cases vr with
  | none=>exact h2.elim
  | some vr=>exact ⟨_,b,vr,rfl,rfl,f,h⟩
theorem ne_new' {a b:Nat} (h:a<b):¬ at' a b:=fun e=>by have e':b=a:=e;omega
theorem IsBo.in {w:World} {n:Nat} {O:Bo} {M:Mc} (h:IsBo w n O M):∀ k,(O.B.s k∨k=O.B.p)→n≤k∧k<w.heap.size:=fun k hk=>⟨h.new k hk,h.m.ltp k hk⟩
theorem exS_a (w:World) (B:Bm) (hv:B.v=none) (hM:IsMc w B 16 (M0 (exB 17826092) false)) :
  Calls pQ 6 #[.agg #[π (some ⟨B.p,0,none⟩),π (some ⟨B.bt,0,none⟩),π none],.agg #[U μ 0,U μ 0,U μ 0,U μ 0,U μ 0,U μ 0,U μ 0,U μ 0,U μ 0,U μ 0,U μ 0,U μ 0,U μ 0,U μ 0,U μ 0,U μ 0,U κ 0,U μ 0,U μ 0,U μ 0,U μ 0,U μ 0,U μ 0,U μ 0,U μ 0],U κ 1,U κ 3,U κ 0] w fun e w'=>∃ A:Array Value,A.size=25∧A.all (·.oneCell')=true∧(A[1]? = some (U μ 300)∧A[16]? = some (U κ 4))∧e=ρ (τ #[.agg A,.agg #[U κ 0,U κ 0,U κ 0,U κ 0,U κ 0,U κ 0,β false,U κ 0]])∧Fr B.s w w':=by
 have h:=exStep w B (exB 17826092) false zc _ zcA_eq zc_ok hM
 rw[hv] at h
 refine h.mono ?_
 rintro e w' ⟨c',T,hc,hT,rfl,f,_⟩
 obtain ⟨h1,h2,h3,h4,h5,h6,h7,h8⟩:=tr_a
 rw[←hT] at h1 h2 h3 h4 h5 h6 h7 h8
 obtain ⟨r1,r2⟩:=re_a
 rw[←hc] at r1 r2
 refine ⟨cpA c',bj c',bw c',⟨by rw[ly,cpL_r c' (by decide),r1];rfl,by rw[ly,vq,r2]⟩,?_,f⟩
 rw[h1,h2,h3,h4,h5,h6,h7,h8]
 rfl
theorem exS_b (w:World) (B:Bm) (hv:B.v=none) (hM:IsMc w B 16 (M0 (exB 119603200) false)) :
  Calls pQ 6 #[.agg #[π (some ⟨B.p,0,none⟩),π (some ⟨B.bt,0,none⟩),π none],.agg #[U μ 0,U μ 64,U μ 0,U μ 0,U μ 0,U μ 0,U μ 0,U μ 0,U μ 0,U μ 0,U μ 0,U μ 0,U μ 0,U μ 0,U μ 0,U μ 0,U κ 0,U μ 0,U μ 0,U μ 0,U μ 0,U μ 0,U μ 0,U μ 0,U μ 0],U κ 1,U κ 3,U κ 0] w fun e w'=>∃ A:Array Value,A.size=25∧A.all (·.oneCell')=true∧(A[2]? = some (U μ 77)∧True)∧e=ρ (τ #[.agg A,.agg #[U κ 0,U κ 0,U κ 0,U κ 0,U κ 0,U κ 0,β false,U κ 0]])∧Fr B.s w w':=by
 have h:=exStep w B (exB 119603200) false (zc.setR 1 64) _ inA_eq (zc_ok.setR 1 (by decide)) hM
 rw[hv] at h
 refine h.mono ?_
 rintro e w' ⟨c',T,hc,hT,rfl,f,_⟩
 obtain ⟨h1,h2,h3,h4,h5,h6,h7,h8⟩:=tr_b
 rw[←hT] at h1 h2 h3 h4 h5 h6 h7 h8
 have r1:=re_b
 rw[←hc] at r1
 refine ⟨cpA c',bj c',bw c',⟨by rw[ly,cpL_r c' (by decide),r1];rfl,trivial⟩,?_,f⟩
 rw[h1,h2,h3,h4,h5,h6,h7,h8]
 rfl
theorem exS_c (w:World) (B:Bm) (hv:B.v=none) (hM:IsMc w B 16 (M0 (exB 285212675) false)) :
  Calls pQ 6 #[.agg #[π (some ⟨B.p,0,none⟩),π (some ⟨B.bt,0,none⟩),π none],.agg #[U μ 0,U μ 0,U μ 0,U μ 0,U μ 0,U μ 0,U μ 0,U μ 0,U μ 0,U μ 0,U μ 0,U μ 0,U μ 0,U μ 0,U μ 0,U μ 0,U κ 0,U μ 0,U μ 0,U μ 0,U μ 0,U μ 0,U μ 0,U μ 0,U μ 0],U κ 1,U κ 3,U κ 0] w fun e w'=>∃ A:Array Value,A.size=25∧A.all (·.oneCell')=true∧(True∧True)∧e=ρ (τ #[.agg A,.agg #[U κ 8,U κ 285212675,U κ 0,U κ 0,U κ 0,U κ 0,β false,U κ 0]])∧Fr B.s w w':=by
 have h:=exStep w B (exB 285212675) false zc _ zcA_eq zc_ok hM
 rw[hv] at h
 refine h.mono ?_
 rintro e w' ⟨c',T,hc,hT,rfl,f,_⟩
 obtain ⟨h1,h2,h3,h4,h5,h6,h7,h8⟩:=tr_c
 rw[←hT] at h1 h2 h3 h4 h5 h6 h7 h8
 clear hc
 skip
 refine ⟨cpA c',bj c',bw c',⟨trivial,trivial⟩,?_,f⟩
 rw[h1,h2,h3,h4,h5,h6,h7,h8]
 rfl
theorem exS_d (w:World) (B:Bm) (b:Bk) (hv:B.v=some b) (hM:IsMc w B 16 (M0 (exB 285212675) true)) :
  Calls pQ 6 #[.agg #[π (some ⟨B.p,0,none⟩),π (some ⟨B.bt,0,none⟩),π (some ⟨b.b,0,none⟩)],.agg #[U μ 0,U μ 0,U μ 0,U μ 0,U μ 0,U μ 0,U μ 0,U μ 0,U μ 0,U μ 0,U μ 0,U μ 0,U μ 0,U μ 0,U μ 0,U μ 0,U κ 0,U μ 0,U μ 0,U μ 0,U μ 0,U μ 0,U μ 0,U μ 0,U μ 0],U κ 1,U κ 3,U κ 0] w fun e w'=>∃ A:Array Value,A.size=25∧A.all (·.oneCell')=true∧(True∧True)∧e=ρ (τ #[.agg A,.agg #[U κ 5,U κ 3,U κ 0,U κ 0,U κ 0,U κ 0,β false,U κ 0]])∧Fr B.s w w':=by
 have h:=exStep w B (exB 285212675) true zc _ zcA_eq zc_ok hM
 rw[hv] at h
 refine h.mono ?_
 rintro e w' ⟨c',T,hc,hT,rfl,f,_⟩
 obtain ⟨h1,h2,h3,h4,h5,h6,h7,h8⟩:=tr_d
 rw[←hT] at h1 h2 h3 h4 h5 h6 h7 h8
 clear hc
 skip
 refine ⟨cpA c',bj c',bw c',⟨trivial,trivial⟩,?_,f⟩
 rw[h1,h2,h3,h4,h5,h6,h7,h8]
 rfl
theorem awake_any (w:World):Calls pQ 4 #[] w fun e w'=>e=ρ (β true)∧Fr bg w w':=by
 have hz:∀ w,Sem.run pQ (zeroValue 30) w=.ok (.agg (cpA zc)) w:=my
 have f0:=Fr.refl bg w
 go_enter Tryz.func4,Tryz.ntmps4
 go_wp2_with fail
 refine(n8 _ 1 1 0 0 300 false 17826092 enc_a (by decide)).mono ?_
 rintro e xa ⟨sa,qa,rfl,g1,hP,hQ⟩
 replace f0:=f0.trans g1
 have KK:Hid (w.heap.size≤xa.heap.size):=f0.size
 have La:Hid (True):=trivial
 clear g1
 go_wp2_with fail
 refine(exmade_f _ _ _ 17826092 hP hQ).mono ?_
 rintro e ya ⟨Oa,va,rfl,g2,hB⟩
 replace f0:=f0.trans g2
 have Ia:Hid (∀ k,(Oa.B.s k∨k=Oa.B.p)→xa.heap.size≤k∧k<ya.heap.size):=hB.in
 have Ja:Hid (xa.heap.size≤ya.heap.size):=g2.size
 have Ha:=hB.m.keep0 ((Fr.refl bg ya).alloc (ω #[π (some ⟨Oa.B.p,0,none⟩),π (some ⟨Oa.B.bt,0,none⟩),π none,π (some ⟨Oa.pr,0,none⟩),π (some ⟨Oa.bu,0,none⟩),π none] 44))
 have ra:=ba ya #[π (some ⟨Oa.B.p,0,none⟩),π (some ⟨Oa.B.bt,0,none⟩),π none,π (some ⟨Oa.pr,0,none⟩),π (some ⟨Oa.bu,0,none⟩),π none] 44
 have g3:=(Fr.refl bg ya).alloc (ω #[π (some ⟨Oa.B.p,0,none⟩),π (some ⟨Oa.B.bt,0,none⟩),π none,π (some ⟨Oa.pr,0,none⟩),π (some ⟨Oa.bu,0,none⟩),π none] 44)
 replace f0:=f0.trans g3
 clear g2 hB hP hQ g3
 go_upto_region 2 with fail
 obtain ⟨ua,hu⟩:∃ u,u=ya.alloc (ω #[π (some ⟨Oa.B.p,0,none⟩),π (some ⟨Oa.B.bt,0,none⟩),π none,π (some ⟨Oa.pr,0,none⟩),π (some ⟨Oa.bu,0,none⟩),π none] 44):=⟨_,rfl⟩
 rw[←hu] at Ha ra f0 ⊢
 clear hu
 obtain ⟨ga,hg⟩:∃ q,q=ya.heap.size:=⟨_,rfl⟩
 rw[←hg] at ra Ia Ja ⊢
 clear hg
 go_wp2_with fail
 refine(n8 _ 7 2 1 0 0 false 119603200 enc_b (by decide)).mono ?_
 rintro e xb ⟨sb,qb,rfl,g1,hP,hQ⟩
 replace Ha:=Ha.keep0 g1
 replace ra:=ra.keep g1 (fun h=>h)
 replace f0:=f0.trans g1
 skip
 have Lb:Hid (ga<xb.heap.size):=ra.lt
 clear g1
 go_wp2_with fail
 refine(exmade_f _ _ _ 119603200 hP hQ).mono ?_
 rintro e yb ⟨Ob,vb,rfl,g2,hB⟩
 replace Ha:=Ha.keep0 g2
 replace ra:=ra.keep g2 (fun h=>h)
 replace f0:=f0.trans g2
 have Ib:Hid (∀ k,(Ob.B.s k∨k=Ob.B.p)→xb.heap.size≤k∧k<yb.heap.size):=hB.in
 have Jb':Hid (xb.heap.size≤yb.heap.size):=g2.size
 have Hb:=hB.m.keep0 ((Fr.refl bg yb).alloc (ω #[π (some ⟨Ob.B.p,0,none⟩),π (some ⟨Ob.B.bt,0,none⟩),π none,π (some ⟨Ob.pr,0,none⟩),π (some ⟨Ob.bu,0,none⟩),π none] 44))
 have rb:=ba yb #[π (some ⟨Ob.B.p,0,none⟩),π (some ⟨Ob.B.bt,0,none⟩),π none,π (some ⟨Ob.pr,0,none⟩),π (some ⟨Ob.bu,0,none⟩),π none] 44
 have g3:=(Fr.refl bg yb).alloc (ω #[π (some ⟨Ob.B.p,0,none⟩),π (some ⟨Ob.B.bt,0,none⟩),π none,π (some ⟨Ob.pr,0,none⟩),π (some ⟨Ob.bu,0,none⟩),π none] 44)
 replace Ha:=Ha.keep0 g3
 replace ra:=ra.keep g3 (fun h=>h)
 replace f0:=f0.trans g3
 clear g2 hB hP hQ g3
 go_upto_region 3 with fail
 obtain ⟨ub,hu⟩:∃ u,u=yb.alloc (ω #[π (some ⟨Ob.B.p,0,none⟩),π (some ⟨Ob.B.bt,0,none⟩),π none,π (some ⟨Ob.pr,0,none⟩),π (some ⟨Ob.bu,0,none⟩),π none] 44):=⟨_,rfl⟩
 rw[←hu] at Hb rb f0 Ha ra ⊢
 clear hu
 obtain ⟨gb,hg⟩:∃ q,q=yb.heap.size:=⟨_,rfl⟩
 rw[←hg] at rb Ib Jb' ⊢
 clear hg
 go_wp2_with fail
 refine(n8 _ 17 0 0 0 3 false 285212675 enc_c (by decide)).mono ?_
 rintro e xc ⟨sc,qc,rfl,g1,hP,hQ⟩
 replace Ha:=Ha.keep0 g1
 replace ra:=ra.keep g1 (fun h=>h)
 replace Hb:=Hb.keep0 g1
 replace rb:=rb.keep g1 (fun h=>h)
 replace f0:=f0.trans g1
 skip
 have Lc:Hid (gb<xc.heap.size):=rb.lt
 clear g1
 go_wp2_with fail
 refine(exmade_f _ _ _ 285212675 hP hQ).mono ?_
 rintro e yc ⟨Oc,vc,rfl,g2,hB⟩
 replace Ha:=Ha.keep0 g2
 replace ra:=ra.keep g2 (fun h=>h)
 replace Hb:=Hb.keep0 g2
 replace rb:=rb.keep g2 (fun h=>h)
 replace f0:=f0.trans g2
 have Ic:Hid (∀ k,(Oc.B.s k∨k=Oc.B.p)→xc.heap.size≤k∧k<yc.heap.size):=hB.in
 have Jc:Hid (xc.heap.size≤yc.heap.size):=g2.size
 have Hc:=hB.m.keep0 ((Fr.refl bg yc).alloc (ω #[π (some ⟨Oc.B.p,0,none⟩),π (some ⟨Oc.B.bt,0,none⟩),π none,π (some ⟨Oc.pr,0,none⟩),π (some ⟨Oc.bu,0,none⟩),π none] 44))
 have rc:=ba yc #[π (some ⟨Oc.B.p,0,none⟩),π (some ⟨Oc.B.bt,0,none⟩),π none,π (some ⟨Oc.pr,0,none⟩),π (some ⟨Oc.bu,0,none⟩),π none] 44
 have g3:=(Fr.refl bg yc).alloc (ω #[π (some ⟨Oc.B.p,0,none⟩),π (some ⟨Oc.B.bt,0,none⟩),π none,π (some ⟨Oc.pr,0,none⟩),π (some ⟨Oc.bu,0,none⟩),π none] 44)
 replace Ha:=Ha.keep0 g3
 replace ra:=ra.keep g3 (fun h=>h)
 replace Hb:=Hb.keep0 g3
 replace rb:=rb.keep g3 (fun h=>h)
 replace f0:=f0.trans g3
 clear g2 hB hP hQ g3
 go_upto_region 4 with fail
 obtain ⟨uc,hu⟩:∃ u,u=yc.alloc (ω #[π (some ⟨Oc.B.p,0,none⟩),π (some ⟨Oc.B.bt,0,none⟩),π none,π (some ⟨Oc.pr,0,none⟩),π (some ⟨Oc.bu,0,none⟩),π none] 44):=⟨_,rfl⟩
 rw[←hu] at Hc rc f0 Ha ra Hb rb ⊢
 clear hu
 obtain ⟨gc,hg⟩:∃ q,q=yc.heap.size:=⟨_,rfl⟩
 rw[←hg] at rc Ic Jc ⊢
 clear hg
 go_wp2_with fail
 refine(n8 _ 17 0 0 0 3 true 285212675 enc_d (by decide)).mono ?_
 rintro e xd ⟨sd,qd,rfl,g1,hP,hQ⟩
 replace Ha:=Ha.keep0 g1
 replace ra:=ra.keep g1 (fun h=>h)
 replace Hb:=Hb.keep0 g1
 replace rb:=rb.keep g1 (fun h=>h)
 replace Hc:=Hc.keep0 g1
 replace rc:=rc.keep g1 (fun h=>h)
 replace f0:=f0.trans g1
 skip
 have Ld:Hid (gc<xd.heap.size):=rc.lt
 clear g1
 go_wp2_with fail
 refine(exmade_t _ _ _ 285212675 hP hQ).mono ?_
 rintro e yd ⟨Od,bd,vrd,vd,rfl,g2,hB⟩
 replace Ha:=Ha.keep0 g2
 replace ra:=ra.keep g2 (fun h=>h)
 replace Hb:=Hb.keep0 g2
 replace rb:=rb.keep g2 (fun h=>h)
 replace Hc:=Hc.keep0 g2
 replace rc:=rc.keep g2 (fun h=>h)
 replace f0:=f0.trans g2
 have Id:Hid (∀ k,(Od.B.s k∨k=Od.B.p)→xd.heap.size≤k∧k<yd.heap.size):=hB.in
 have Jd:Hid (xd.heap.size≤yd.heap.size):=g2.size
 have Hd:=hB.m.keep0 ((Fr.refl bg yd).alloc (ω #[π (some ⟨Od.B.p,0,none⟩),π (some ⟨Od.B.bt,0,none⟩),π (some ⟨bd.b,0,none⟩),π (some ⟨Od.pr,0,none⟩),π (some ⟨Od.bu,0,none⟩),π (some ⟨vrd,0,none⟩)] 44))
 have rd:=ba yd #[π (some ⟨Od.B.p,0,none⟩),π (some ⟨Od.B.bt,0,none⟩),π (some ⟨bd.b,0,none⟩),π (some ⟨Od.pr,0,none⟩),π (some ⟨Od.bu,0,none⟩),π (some ⟨vrd,0,none⟩)] 44
 have g3:=(Fr.refl bg yd).alloc (ω #[π (some ⟨Od.B.p,0,none⟩),π (some ⟨Od.B.bt,0,none⟩),π (some ⟨bd.b,0,none⟩),π (some ⟨Od.pr,0,none⟩),π (some ⟨Od.bu,0,none⟩),π (some ⟨vrd,0,none⟩)] 44)
 replace Ha:=Ha.keep0 g3
 replace ra:=ra.keep g3 (fun h=>h)
 replace Hb:=Hb.keep0 g3
 replace rb:=rb.keep g3 (fun h=>h)
 replace Hc:=Hc.keep0 g3
 replace rc:=rc.keep g3 (fun h=>h)
 replace f0:=f0.trans g3
 clear g2 hB hP hQ g3
 go_upto_region 5 with fail
 obtain ⟨ud,hu⟩:∃ u,u=yd.alloc (ω #[π (some ⟨Od.B.p,0,none⟩),π (some ⟨Od.B.bt,0,none⟩),π (some ⟨bd.b,0,none⟩),π (some ⟨Od.pr,0,none⟩),π (some ⟨Od.bu,0,none⟩),π (some ⟨vrd,0,none⟩)] 44):=⟨_,rfl⟩
 rw[←hu] at Hd rd f0 Ha ra Hb rb Hc rc ⊢
 clear hu
 obtain ⟨gd,hg⟩:∃ q,q=yd.heap.size:=⟨_,rfl⟩
 rw[←hg] at rd Id Jd ⊢
 clear hg
 have LL:Hid (w.heap.size≤xa.heap.size∧xa.heap.size≤ga∧ga<xb.heap.size∧xb.heap.size≤gb∧gb<xc.heap.size∧xc.heap.size≤gc∧gc<xd.heap.size∧xd.heap.size≤gd):=(show _∧_ from ⟨KK.out,Ja.out,Lb.out,Jb'.out,Lc.out,Jc.out,Ld.out,Jd.out⟩)
 obtain ⟨k0,k1,k2,k3,k4,k5⟩:=vt ra
 go_wp2_with fail
 refine(exS_a _ Oa.B va Ha).mono ?_
 rintro e wza ⟨Aa,asa,aoa,afa,rfl,g1⟩
 have AFa:Hid (Aa[1]? = some (U μ 300)∧Aa[16]? = some (U κ 4)):=afa
 clear k0 k1 k2 k3 k4 k5 Ha afa
 replace ra:=ra.keep g1 (fun e=>by have h1:=Ia.out ga (Or.inl e);have h2:=LL.out;omega)
 replace rb:=rb.keep g1 (fun e=>by have h1:=Ia.out gb (Or.inl e);have h2:=LL.out;omega)
 replace rc:=rc.keep g1 (fun e=>by have h1:=Ia.out gc (Or.inl e);have h2:=LL.out;omega)
 replace rd:=rd.keep g1 (fun e=>by have h1:=Ia.out gd (Or.inl e);have h2:=LL.out;omega)
 replace Hb:=qu Hb g1 (fun k hk e=>by have h1:=Ia.out k (Or.inl e);have h2:=Ib.out k hk;have h3:=LL.out;omega)
 replace Hc:=qu Hc g1 (fun k hk e=>by have h1:=Ia.out k (Or.inl e);have h2:=Ic.out k hk;have h3:=LL.out;omega)
 replace Hd:=qu Hd g1 (fun k hk e=>by have h1:=Ia.out k (Or.inl e);have h2:=Id.out k hk;have h3:=LL.out;omega)
 replace f0:Fr bg w wza:=⟨g1.os.trans f0.os,g1.tape.trans f0.tape,g1.output.trans f0.output,Nat.le_trans f0.size g1.size,fun k hk hn=>by
  rw[g1.block k (Nat.lt_of_lt_of_le hk f0.size) (fun e=>by have h1:=Ia.out k (Or.inl e);have h2:=LL.out;omega)];exact f0.block k hk hn⟩
 have pc0:Row ((wza.alloc (ω (cpA zc) 30)).alloc (ω #[U κ 0,U κ 0,U κ 0,U κ 0,U κ 0,U κ 0,β false,U κ 0] 52)) wza.heap.size (cpA zc) 30:=(ba wza (cpA zc) 30).alloc _
 have pt0:Row ((wza.alloc (ω (cpA zc) 30)).alloc (ω #[U κ 0,U κ 0,U κ 0,U κ 0,U κ 0,U κ 0,β false,U κ 0] 52)) (wza.heap.size+1) #[U κ 0,U κ 0,U κ 0,U κ 0,U κ 0,U κ 0,β false,U κ 0] 52:=dq (by simp)
 have pt1:=pt0.keep (bb _ wza.heap.size Aa) (ne_new' (Nat.lt_succ_self _))
 have ls:(Tryz.prog.info? 30).map (·.size)=some Aa.size:=by rw[asa];exact kz
 have lo:(cpA zc).size=Aa.size:=by rw[asa];exact bj zc
 have lz:gd<wza.heap.size:=rd.lt
 have g2:Fr bg wza ((((wza.alloc (ω (cpA zc) 30)).alloc (ω #[U κ 0,U κ 0,U κ 0,U κ 0,U κ 0,U κ 0,β false,U κ 0] 52)).setRow wza.heap.size Aa).setRow (wza.heap.size+1) #[U κ 0,U κ 0,U κ 0,U κ 0,U κ 0,U κ 0,β false,U κ 0]):=(((((Fr.refl bg wza).alloc _).alloc _).newer (bb _ wza.heap.size Aa) (Nat.le_refl _))).newer (bb _ (wza.heap.size+1) _) (Nat.le_succ _)
 have pca:Row ((((wza.alloc (ω (cpA zc) 30)).alloc (ω #[U κ 0,U κ 0,U κ 0,U κ 0,U κ 0,U κ 0,β false,U κ 0] 52)).setRow wza.heap.size Aa).setRow (wza.heap.size+1) #[U κ 0,U κ 0,U κ 0,U κ 0,U κ 0,U κ 0,β false,U κ 0]) wza.heap.size Aa 30:=(pc0.setRow).keep (bb _ (wza.heap.size+1) _) (vn (Nat.lt_succ_self _))
 have pta:Row ((((wza.alloc (ω (cpA zc) 30)).alloc (ω #[U κ 0,U κ 0,U κ 0,U κ 0,U κ 0,U κ 0,β false,U κ 0] 52)).setRow wza.heap.size Aa).setRow (wza.heap.size+1) #[U κ 0,U κ 0,U κ 0,U κ 0,U κ 0,U κ 0,β false,U κ 0]) (wza.heap.size+1) #[U κ 0,U κ 0,U κ 0,U κ 0,U κ 0,U κ 0,β false,U κ 0] 52:=pt1.setRow
 have GG:Hid (Fr bg wza ((((wza.alloc (ω (cpA zc) 30)).alloc (ω #[U κ 0,U κ 0,U κ 0,U κ 0,U κ 0,U κ 0,β false,U κ 0] 52)).setRow wza.heap.size Aa).setRow (wza.heap.size+1) #[U κ 0,U κ 0,U κ 0,U κ 0,U κ 0,U κ 0,β false,U κ 0])∧Row ((((wza.alloc (ω (cpA zc) 30)).alloc (ω #[U κ 0,U κ 0,U κ 0,U κ 0,U κ 0,U κ 0,β false,U κ 0] 52)).setRow wza.heap.size Aa).setRow (wza.heap.size+1) #[U κ 0,U κ 0,U κ 0,U κ 0,U κ 0,U κ 0,β false,U κ 0]) wza.heap.size Aa 30∧Row ((((wza.alloc (ω (cpA zc) 30)).alloc (ω #[U κ 0,U κ 0,U κ 0,U κ 0,U κ 0,U κ 0,β false,U κ 0] 52)).setRow wza.heap.size Aa).setRow (wza.heap.size+1) #[U κ 0,U κ 0,U κ 0,U κ 0,U κ 0,U κ 0,β false,U κ 0]) (wza.heap.size+1) #[U κ 0,U κ 0,U κ 0,U κ 0,U κ 0,U κ 0,β false,U κ 0] 52):=⟨g2,pca,pta⟩
 clear g1 g2 pca pta pt0
 go_upto_region 8 with(first | refine wpList_store_row rfl 30 _ _ rfl wza.heap.size Aa rfl rfl 30 (cpA zc) pc0 ls lo aoa ?_ | refine wpList_store_row rfl 52 _ _ rfl (wza.heap.size+1) #[U κ 0,U κ 0,U κ 0,U κ 0,U κ 0,U κ 0,β false,U κ 0] rfl rfl 52 #[U κ 0,U κ 0,U κ 0,U κ 0,U κ 0,U κ 0,β false,U κ 0] pt1 bn rfl (by simp[Value.oneCell']) ?_)
 clear pc0 pt1 ls lo
 obtain ⟨g2,pca,pta⟩:=GG.out
 clear GG
 replace ra:=ra.keep g2 (fun h=>h)
 replace rb:=rb.keep g2 (fun h=>h)
 replace rc:=rc.keep g2 (fun h=>h)
 replace rd:=rd.keep g2 (fun h=>h)
 replace Hb:=Hb.keep0 g2
 replace Hc:=Hc.keep0 g2
 replace Hd:=Hd.keep0 g2
 replace f0:=f0.trans g2
 clear g2
 obtain ⟨ta,ht⟩:∃ u,u=((((wza.alloc (ω (cpA zc) 30)).alloc (ω #[U κ 0,U κ 0,U κ 0,U κ 0,U κ 0,U κ 0,β false,U κ 0] 52)).setRow wza.heap.size Aa).setRow (wza.heap.size+1) #[U κ 0,U κ 0,U κ 0,U κ 0,U κ 0,U κ 0,β false,U κ 0]):=⟨_,rfl⟩
 rw[←ht] at f0 pca pta ra rb rc rd  Hb Hc Hd ⊢
 clear ht
 obtain ⟨hca,hh1⟩:∃ q,q=wza.heap.size:=⟨_,rfl⟩
 obtain ⟨hta,hh2⟩:∃ q,q=wza.heap.size+1:=⟨_,rfl⟩
 rw[←hh2] at pta ⊢
 rw[←hh1] at pca lz ⊢
 have Pca:Hid (gd<hca):=lz
 have Pta:Hid (gd<hta):=(show gd<hta by omega)
 clear hh1 hh2 lz
 have lz:gd<ta.heap.size:=rd.lt
 have pi0:=ba ta (cpA zc) 30
 have pi1:Row ((ta.alloc (ω (cpA zc) 30)).setRow ta.heap.size #[U μ 0,U μ 0,U μ 0,U μ 0,U μ 0,U μ 0,U μ 0,U μ 0,U μ 0,U μ 0,U μ 0,U μ 0,U μ 0,U μ 0,U μ 0,U μ 0,U κ 0,U μ 0,U μ 0,U μ 0,U μ 0,U μ 0,U μ 0,U μ 0,U μ 0]) ta.heap.size #[U μ 0,U μ 0,U μ 0,U μ 0,U μ 0,U μ 0,U μ 0,U μ 0,U μ 0,U μ 0,U μ 0,U μ 0,U μ 0,U μ 0,U μ 0,U μ 0,U κ 0,U μ 0,U μ 0,U μ 0,U μ 0,U μ 0,U μ 0,U μ 0,U μ 0] 30:=pi0.setRow
 have g2:Fr bg ta (((ta.alloc (ω (cpA zc) 30)).setRow ta.heap.size #[U μ 0,U μ 0,U μ 0,U μ 0,U μ 0,U μ 0,U μ 0,U μ 0,U μ 0,U μ 0,U μ 0,U μ 0,U μ 0,U μ 0,U μ 0,U μ 0,U κ 0,U μ 0,U μ 0,U μ 0,U μ 0,U μ 0,U μ 0,U μ 0,U μ 0]).setCell ⟨ta.heap.size,1,none⟩ (U μ 64)):=(((Fr.refl bg ta).alloc _).newer (bb _ ta.heap.size _) (Nat.le_refl _)).newer (cy _ ta.heap.size 1 _ (Fr.refl _ _)) (Nat.le_refl _)
 have pin:Row (((ta.alloc (ω (cpA zc) 30)).setRow ta.heap.size #[U μ 0,U μ 0,U μ 0,U μ 0,U μ 0,U μ 0,U μ 0,U μ 0,U μ 0,U μ 0,U μ 0,U μ 0,U μ 0,U μ 0,U μ 0,U μ 0,U κ 0,U μ 0,U μ 0,U μ 0,U μ 0,U μ 0,U μ 0,U μ 0,U μ 0]).setCell ⟨ta.heap.size,1,none⟩ (U μ 64)) ta.heap.size #[U μ 0,U μ 64,U μ 0,U μ 0,U μ 0,U μ 0,U μ 0,U μ 0,U μ 0,U μ 0,U μ 0,U μ 0,U μ 0,U μ 0,U μ 0,U μ 0,U κ 0,U μ 0,U μ 0,U μ 0,U μ 0,U μ 0,U μ 0,U μ 0,U μ 0] 30:=pi1.setCell 1 (U μ 64)
 have GG:Hid (Fr bg ta (((ta.alloc (ω (cpA zc) 30)).setRow ta.heap.size #[U μ 0,U μ 0,U μ 0,U μ 0,U μ 0,U μ 0,U μ 0,U μ 0,U μ 0,U μ 0,U μ 0,U μ 0,U μ 0,U μ 0,U μ 0,U μ 0,U κ 0,U μ 0,U μ 0,U μ 0,U μ 0,U μ 0,U μ 0,U μ 0,U μ 0]).setCell ⟨ta.heap.size,1,none⟩ (U μ 64))∧Row (((ta.alloc (ω (cpA zc) 30)).setRow ta.heap.size #[U μ 0,U μ 0,U μ 0,U μ 0,U μ 0,U μ 0,U μ 0,U μ 0,U μ 0,U μ 0,U μ 0,U μ 0,U μ 0,U μ 0,U μ 0,U μ 0,U κ 0,U μ 0,U μ 0,U μ 0,U μ 0,U μ 0,U μ 0,U μ 0,U μ 0]).setCell ⟨ta.heap.size,1,none⟩ (U μ 64)) ta.heap.size #[U μ 0,U μ 64,U μ 0,U μ 0,U μ 0,U μ 0,U μ 0,U μ 0,U μ 0,U μ 0,U μ 0,U μ 0,U μ 0,U μ 0,U μ 0,U μ 0,U κ 0,U μ 0,U μ 0,U μ 0,U μ 0,U μ 0,U μ 0,U μ 0,U μ 0] 30):=⟨g2,pin⟩
 clear g2 pin
 have pj1:((ta.alloc (ω (cpA zc) 30)).setRow ta.heap.size #[U μ 0,U μ 0,U μ 0,U μ 0,U μ 0,U μ 0,U μ 0,U μ 0,U μ 0,U μ 0,U μ 0,U μ 0,U μ 0,U μ 0,U μ 0,U μ 0,U κ 0,U μ 0,U μ 0,U μ 0,U μ 0,U μ 0,U μ 0,U μ 0,U μ 0]).cell? ⟨ta.heap.size,1,none⟩=some (U μ 0):=pi1.cell 1
 have pj2:((ta.alloc (ω (cpA zc) 30)).setRow ta.heap.size #[U μ 0,U μ 0,U μ 0,U μ 0,U μ 0,U μ 0,U μ 0,U μ 0,U μ 0,U μ 0,U μ 0,U μ 0,U μ 0,U μ 0,U μ 0,U μ 0,U κ 0,U μ 0,U μ 0,U μ 0,U μ 0,U μ 0,U μ 0,U μ 0,U μ 0]).frozen? ⟨ta.heap.size,1,none⟩=false:=pi1.frozen 1
 clear pi1
 go_upto_region 10 with(refine wpList_store_row rfl 30 _ _ rfl ta.heap.size #[U μ 0,U μ 0,U μ 0,U μ 0,U μ 0,U μ 0,U μ 0,U μ 0,U μ 0,U μ 0,U μ 0,U μ 0,U μ 0,U μ 0,U μ 0,U μ 0,U κ 0,U μ 0,U μ 0,U μ 0,U μ 0,U μ 0,U μ 0,U μ 0,U μ 0] rfl rfl 30 (cpA zc) pi0 kz rfl (by simp[Value.oneCell']) ?_)
 clear pi0 pj1 pj2
 obtain ⟨g2,pin⟩:=GG.out
 clear GG
 replace ra:=ra.keep g2 (fun h=>h)
 replace rb:=rb.keep g2 (fun h=>h)
 replace rc:=rc.keep g2 (fun h=>h)
 replace rd:=rd.keep g2 (fun h=>h)
 replace pca:=pca.keep g2 (fun h=>h)
 replace pta:=pta.keep g2 (fun h=>h)
 replace Hb:=Hb.keep0 g2
 replace Hc:=Hc.keep0 g2
 replace Hd:=Hd.keep0 g2
 replace f0:=f0.trans g2
 clear g2
 obtain ⟨ti,ht⟩:∃ u,u=(((ta.alloc (ω (cpA zc) 30)).setRow ta.heap.size #[U μ 0,U μ 0,U μ 0,U μ 0,U μ 0,U μ 0,U μ 0,U μ 0,U μ 0,U μ 0,U μ 0,U μ 0,U μ 0,U μ 0,U μ 0,U μ 0,U κ 0,U μ 0,U μ 0,U μ 0,U μ 0,U μ 0,U μ 0,U μ 0,U μ 0]).setCell ⟨ta.heap.size,1,none⟩ (U μ 64)):=⟨_,rfl⟩
 rw[←ht] at f0 pin ra rb rc rd pca pta Hb Hc Hd ⊢
 clear ht
 obtain ⟨gin,hh1⟩:∃ q,q=ta.heap.size:=⟨_,rfl⟩
 rw[←hh1] at pin lz ⊢
 clear hh1 lz
 have pinc:∀ j v,(#[U μ 0,U μ 64,U μ 0,U μ 0,U μ 0,U μ 0,U μ 0,U μ 0,U μ 0,U μ 0,U μ 0,U μ 0,U μ 0,U μ 0,U μ 0,U μ 0,U κ 0,U μ 0,U μ 0,U μ 0,U μ 0,U μ 0,U μ 0,U μ 0,U μ 0]:Array Value)[j]? = some v→ti.cell? ⟨gin,j,none⟩=some v:=fun j v hv=>(pin.cell j).trans hv
 obtain ⟨k0,k1,k2,k3,k4,k5⟩:=vt rb
 go_wp2_with (refine bh rfl 30 _ rfl gin rfl #[U μ 0,U μ 64,U μ 0,U μ 0,U μ 0,U μ 0,U μ 0,U μ 0,U μ 0,U μ 0,U μ 0,U μ 0,U μ 0,U μ 0,U μ 0,U μ 0,U κ 0,U μ 0,U μ 0,U μ 0,U μ 0,U μ 0,U μ 0,U μ 0,U μ 0] _ pinc Tryz.underlying30 rfl kz ?_)
 refine(exS_b _ Ob.B vb Hb).mono ?_
 rintro e wzb ⟨Ab,asb,aob,afb,rfl,g1⟩
 have AFb:Hid (Ab[2]? = some (U μ 77)∧True):=afb
 clear k0 k1 k2 k3 k4 k5 Hb afb
 replace ra:=ra.keep g1 (fun e=>by have h1:=Ib.out ga (Or.inl e);have h2:=LL.out;omega)
 replace rb:=rb.keep g1 (fun e=>by have h1:=Ib.out gb (Or.inl e);have h2:=LL.out;omega)
 replace rc:=rc.keep g1 (fun e=>by have h1:=Ib.out gc (Or.inl e);have h2:=LL.out;omega)
 replace rd:=rd.keep g1 (fun e=>by have h1:=Ib.out gd (Or.inl e);have h2:=LL.out;omega)
 replace pca:=pca.keep g1 (fun e=>by have h1:=Ib.out _ (Or.inl e);have h2:=LL.out;have h3:=Pca.out;omega)
 replace pta:=pta.keep g1 (fun e=>by have h1:=Ib.out _ (Or.inl e);have h2:=LL.out;have h3:=Pta.out;omega)
 replace Hc:=qu Hc g1 (fun k hk e=>by have h1:=Ib.out k (Or.inl e);have h2:=Ic.out k hk;have h3:=LL.out;omega)
 replace Hd:=qu Hd g1 (fun k hk e=>by have h1:=Ib.out k (Or.inl e);have h2:=Id.out k hk;have h3:=LL.out;omega)
 replace f0:Fr bg w wzb:=⟨g1.os.trans f0.os,g1.tape.trans f0.tape,g1.output.trans f0.output,Nat.le_trans f0.size g1.size,fun k hk hn=>by
  rw[g1.block k (Nat.lt_of_lt_of_le hk f0.size) (fun e=>by have h1:=Ib.out k (Or.inl e);have h2:=LL.out;omega)];exact f0.block k hk hn⟩
 have pc0:Row ((wzb.alloc (ω (cpA zc) 30)).alloc (ω #[U κ 0,U κ 0,U κ 0,U κ 0,U κ 0,U κ 0,β false,U κ 0] 52)) wzb.heap.size (cpA zc) 30:=(ba wzb (cpA zc) 30).alloc _
 have pt0:Row ((wzb.alloc (ω (cpA zc) 30)).alloc (ω #[U κ 0,U κ 0,U κ 0,U κ 0,U κ 0,U κ 0,β false,U κ 0] 52)) (wzb.heap.size+1) #[U κ 0,U κ 0,U κ 0,U κ 0,U κ 0,U κ 0,β false,U κ 0] 52:=dq (by simp)
 have pt1:=pt0.keep (bb _ wzb.heap.size Ab) (ne_new' (Nat.lt_succ_self _))
 have ls:(Tryz.prog.info? 30).map (·.size)=some Ab.size:=by rw[asb];exact kz
 have lo:(cpA zc).size=Ab.size:=by rw[asb];exact bj zc
 have lz:gd<wzb.heap.size:=rd.lt
 have g2:Fr bg wzb ((((wzb.alloc (ω (cpA zc) 30)).alloc (ω #[U κ 0,U κ 0,U κ 0,U κ 0,U κ 0,U κ 0,β false,U κ 0] 52)).setRow wzb.heap.size Ab).setRow (wzb.heap.size+1) #[U κ 0,U κ 0,U κ 0,U κ 0,U κ 0,U κ 0,β false,U κ 0]):=(((((Fr.refl bg wzb).alloc _).alloc _).newer (bb _ wzb.heap.size Ab) (Nat.le_refl _))).newer (bb _ (wzb.heap.size+1) _) (Nat.le_succ _)
 have pcb:Row ((((wzb.alloc (ω (cpA zc) 30)).alloc (ω #[U κ 0,U κ 0,U κ 0,U κ 0,U κ 0,U κ 0,β false,U κ 0] 52)).setRow wzb.heap.size Ab).setRow (wzb.heap.size+1) #[U κ 0,U κ 0,U κ 0,U κ 0,U κ 0,U κ 0,β false,U κ 0]) wzb.heap.size Ab 30:=(pc0.setRow).keep (bb _ (wzb.heap.size+1) _) (vn (Nat.lt_succ_self _))
 have ptb:Row ((((wzb.alloc (ω (cpA zc) 30)).alloc (ω #[U κ 0,U κ 0,U κ 0,U κ 0,U κ 0,U κ 0,β false,U κ 0] 52)).setRow wzb.heap.size Ab).setRow (wzb.heap.size+1) #[U κ 0,U κ 0,U κ 0,U κ 0,U κ 0,U κ 0,β false,U κ 0]) (wzb.heap.size+1) #[U κ 0,U κ 0,U κ 0,U κ 0,U κ 0,U κ 0,β false,U κ 0] 52:=pt1.setRow
 have GG:Hid (Fr bg wzb ((((wzb.alloc (ω (cpA zc) 30)).alloc (ω #[U κ 0,U κ 0,U κ 0,U κ 0,U κ 0,U κ 0,β false,U κ 0] 52)).setRow wzb.heap.size Ab).setRow (wzb.heap.size+1) #[U κ 0,U κ 0,U κ 0,U κ 0,U κ 0,U κ 0,β false,U κ 0])∧Row ((((wzb.alloc (ω (cpA zc) 30)).alloc (ω #[U κ 0,U κ 0,U κ 0,U κ 0,U κ 0,U κ 0,β false,U κ 0] 52)).setRow wzb.heap.size Ab).setRow (wzb.heap.size+1) #[U κ 0,U κ 0,U κ 0,U κ 0,U κ 0,U κ 0,β false,U κ 0]) wzb.heap.size Ab 30∧Row ((((wzb.alloc (ω (cpA zc) 30)).alloc (ω #[U κ 0,U κ 0,U κ 0,U κ 0,U κ 0,U κ 0,β false,U κ 0] 52)).setRow wzb.heap.size Ab).setRow (wzb.heap.size+1) #[U κ 0,U κ 0,U κ 0,U κ 0,U κ 0,U κ 0,β false,U κ 0]) (wzb.heap.size+1) #[U κ 0,U κ 0,U κ 0,U κ 0,U κ 0,U κ 0,β false,U κ 0] 52):=⟨g2,pcb,ptb⟩
 clear g1 g2 pcb ptb pt0
 go_upto_region 11 with(first | refine wpList_store_row rfl 30 _ _ rfl wzb.heap.size Ab rfl rfl 30 (cpA zc) pc0 ls lo aob ?_ | refine wpList_store_row rfl 52 _ _ rfl (wzb.heap.size+1) #[U κ 0,U κ 0,U κ 0,U κ 0,U κ 0,U κ 0,β false,U κ 0] rfl rfl 52 #[U κ 0,U κ 0,U κ 0,U κ 0,U κ 0,U κ 0,β false,U κ 0] pt1 bn rfl (by simp[Value.oneCell']) ?_)
 clear pc0 pt1 ls lo
 obtain ⟨g2,pcb,ptb⟩:=GG.out
 clear GG
 replace ra:=ra.keep g2 (fun h=>h)
 replace rb:=rb.keep g2 (fun h=>h)
 replace rc:=rc.keep g2 (fun h=>h)
 replace rd:=rd.keep g2 (fun h=>h)
 replace pca:=pca.keep g2 (fun h=>h)
 replace pta:=pta.keep g2 (fun h=>h)
 replace Hc:=Hc.keep0 g2
 replace Hd:=Hd.keep0 g2
 replace f0:=f0.trans g2
 clear g2
 obtain ⟨tb,ht⟩:∃ u,u=((((wzb.alloc (ω (cpA zc) 30)).alloc (ω #[U κ 0,U κ 0,U κ 0,U κ 0,U κ 0,U κ 0,β false,U κ 0] 52)).setRow wzb.heap.size Ab).setRow (wzb.heap.size+1) #[U κ 0,U κ 0,U κ 0,U κ 0,U κ 0,U κ 0,β false,U κ 0]):=⟨_,rfl⟩
 rw[←ht] at f0 pcb ptb ra rb rc rd pca pta Hc Hd ⊢
 clear ht
 obtain ⟨hcb,hh1⟩:∃ q,q=wzb.heap.size:=⟨_,rfl⟩
 obtain ⟨htb,hh2⟩:∃ q,q=wzb.heap.size+1:=⟨_,rfl⟩
 rw[←hh2] at ptb ⊢
 rw[←hh1] at pcb lz ⊢
 have Pcb:Hid (gd<hcb):=lz
 have Ptb:Hid (gd<htb):=(show gd<htb by omega)
 clear hh1 hh2 lz
 clear pinc pin
 obtain ⟨k0,k1,k2,k3,k4,k5⟩:=vt rc
 go_wp2_with fail
 refine(exS_c _ Oc.B vc Hc).mono ?_
 rintro e wzc ⟨Ac,asc,aoc,afc,rfl,g1⟩
 have AFc:Hid (True∧True):=afc
 clear k0 k1 k2 k3 k4 k5 Hc afc
 replace ra:=ra.keep g1 (fun e=>by have h1:=Ic.out ga (Or.inl e);have h2:=LL.out;omega)
 replace rb:=rb.keep g1 (fun e=>by have h1:=Ic.out gb (Or.inl e);have h2:=LL.out;omega)
 replace rc:=rc.keep g1 (fun e=>by have h1:=Ic.out gc (Or.inl e);have h2:=LL.out;omega)
 replace rd:=rd.keep g1 (fun e=>by have h1:=Ic.out gd (Or.inl e);have h2:=LL.out;omega)
 replace pca:=pca.keep g1 (fun e=>by have h1:=Ic.out _ (Or.inl e);have h2:=LL.out;have h3:=Pca.out;omega)
 replace pta:=pta.keep g1 (fun e=>by have h1:=Ic.out _ (Or.inl e);have h2:=LL.out;have h3:=Pta.out;omega)
 replace pcb:=pcb.keep g1 (fun e=>by have h1:=Ic.out _ (Or.inl e);have h2:=LL.out;have h3:=Pcb.out;omega)
 replace ptb:=ptb.keep g1 (fun e=>by have h1:=Ic.out _ (Or.inl e);have h2:=LL.out;have h3:=Ptb.out;omega)
 replace Hd:=qu Hd g1 (fun k hk e=>by have h1:=Ic.out k (Or.inl e);have h2:=Id.out k hk;have h3:=LL.out;omega)
 replace f0:Fr bg w wzc:=⟨g1.os.trans f0.os,g1.tape.trans f0.tape,g1.output.trans f0.output,Nat.le_trans f0.size g1.size,fun k hk hn=>by
  rw[g1.block k (Nat.lt_of_lt_of_le hk f0.size) (fun e=>by have h1:=Ic.out k (Or.inl e);have h2:=LL.out;omega)];exact f0.block k hk hn⟩
 have pc0:Row ((wzc.alloc (ω (cpA zc) 30)).alloc (ω #[U κ 0,U κ 0,U κ 0,U κ 0,U κ 0,U κ 0,β false,U κ 0] 52)) wzc.heap.size (cpA zc) 30:=(ba wzc (cpA zc) 30).alloc _
 have pt0:Row ((wzc.alloc (ω (cpA zc) 30)).alloc (ω #[U κ 0,U κ 0,U κ 0,U κ 0,U κ 0,U κ 0,β false,U κ 0] 52)) (wzc.heap.size+1) #[U κ 0,U κ 0,U κ 0,U κ 0,U κ 0,U κ 0,β false,U κ 0] 52:=dq (by simp)
 have pt1:=pt0.keep (bb _ wzc.heap.size Ac) (ne_new' (Nat.lt_succ_self _))
 have ls:(Tryz.prog.info? 30).map (·.size)=some Ac.size:=by rw[asc];exact kz
 have lo:(cpA zc).size=Ac.size:=by rw[asc];exact bj zc
 have lz:gd<wzc.heap.size:=rd.lt
 have g2:Fr bg wzc ((((wzc.alloc (ω (cpA zc) 30)).alloc (ω #[U κ 0,U κ 0,U κ 0,U κ 0,U κ 0,U κ 0,β false,U κ 0] 52)).setRow wzc.heap.size Ac).setRow (wzc.heap.size+1) #[U κ 8,U κ 285212675,U κ 0,U κ 0,U κ 0,U κ 0,β false,U κ 0]):=(((((Fr.refl bg wzc).alloc _).alloc _).newer (bb _ wzc.heap.size Ac) (Nat.le_refl _))).newer (bb _ (wzc.heap.size+1) _) (Nat.le_succ _)
 have pcc:Row ((((wzc.alloc (ω (cpA zc) 30)).alloc (ω #[U κ 0,U κ 0,U κ 0,U κ 0,U κ 0,U κ 0,β false,U κ 0] 52)).setRow wzc.heap.size Ac).setRow (wzc.heap.size+1) #[U κ 8,U κ 285212675,U κ 0,U κ 0,U κ 0,U κ 0,β false,U κ 0]) wzc.heap.size Ac 30:=(pc0.setRow).keep (bb _ (wzc.heap.size+1) _) (vn (Nat.lt_succ_self _))
 have ptc:Row ((((wzc.alloc (ω (cpA zc) 30)).alloc (ω #[U κ 0,U κ 0,U κ 0,U κ 0,U κ 0,U κ 0,β false,U κ 0] 52)).setRow wzc.heap.size Ac).setRow (wzc.heap.size+1) #[U κ 8,U κ 285212675,U κ 0,U κ 0,U κ 0,U κ 0,β false,U κ 0]) (wzc.heap.size+1) #[U κ 8,U κ 285212675,U κ 0,U κ 0,U κ 0,U κ 0,β false,U κ 0] 52:=pt1.setRow
 have GG:Hid (Fr bg wzc ((((wzc.alloc (ω (cpA zc) 30)).alloc (ω #[U κ 0,U κ 0,U κ 0,U κ 0,U κ 0,U κ 0,β false,U κ 0] 52)).setRow wzc.heap.size Ac).setRow (wzc.heap.size+1) #[U κ 8,U κ 285212675,U κ 0,U κ 0,U κ 0,U κ 0,β false,U κ 0])∧Row ((((wzc.alloc (ω (cpA zc) 30)).alloc (ω #[U κ 0,U κ 0,U κ 0,U κ 0,U κ 0,U κ 0,β false,U κ 0] 52)).setRow wzc.heap.size Ac).setRow (wzc.heap.size+1) #[U κ 8,U κ 285212675,U κ 0,U κ 0,U κ 0,U κ 0,β false,U κ 0]) wzc.heap.size Ac 30∧Row ((((wzc.alloc (ω (cpA zc) 30)).alloc (ω #[U κ 0,U κ 0,U κ 0,U κ 0,U κ 0,U κ 0,β false,U κ 0] 52)).setRow wzc.heap.size Ac).setRow (wzc.heap.size+1) #[U κ 8,U κ 285212675,U κ 0,U κ 0,U κ 0,U κ 0,β false,U κ 0]) (wzc.heap.size+1) #[U κ 8,U κ 285212675,U κ 0,U κ 0,U κ 0,U κ 0,β false,U κ 0] 52):=⟨g2,pcc,ptc⟩
 clear g1 g2 pcc ptc pt0
 go_upto_region 12 with(first | refine wpList_store_row rfl 30 _ _ rfl wzc.heap.size Ac rfl rfl 30 (cpA zc) pc0 ls lo aoc ?_ | refine wpList_store_row rfl 52 _ _ rfl (wzc.heap.size+1) #[U κ 8,U κ 285212675,U κ 0,U κ 0,U κ 0,U κ 0,β false,U κ 0] rfl rfl 52 #[U κ 0,U κ 0,U κ 0,U κ 0,U κ 0,U κ 0,β false,U κ 0] pt1 bn rfl (by simp[Value.oneCell']) ?_)
 clear pc0 pt1 ls lo
 obtain ⟨g2,pcc,ptc⟩:=GG.out
 clear GG
 replace ra:=ra.keep g2 (fun h=>h)
 replace rb:=rb.keep g2 (fun h=>h)
 replace rc:=rc.keep g2 (fun h=>h)
 replace rd:=rd.keep g2 (fun h=>h)
 replace pca:=pca.keep g2 (fun h=>h)
 replace pta:=pta.keep g2 (fun h=>h)
 replace pcb:=pcb.keep g2 (fun h=>h)
 replace ptb:=ptb.keep g2 (fun h=>h)
 replace Hd:=Hd.keep0 g2
 replace f0:=f0.trans g2
 clear g2
 obtain ⟨tc,ht⟩:∃ u,u=((((wzc.alloc (ω (cpA zc) 30)).alloc (ω #[U κ 0,U κ 0,U κ 0,U κ 0,U κ 0,U κ 0,β false,U κ 0] 52)).setRow wzc.heap.size Ac).setRow (wzc.heap.size+1) #[U κ 8,U κ 285212675,U κ 0,U κ 0,U κ 0,U κ 0,β false,U κ 0]):=⟨_,rfl⟩
 rw[←ht] at f0 pcc ptc ra rb rc rd pca pta pcb ptb Hd ⊢
 clear ht
 obtain ⟨hcc,hh1⟩:∃ q,q=wzc.heap.size:=⟨_,rfl⟩
 obtain ⟨htc,hh2⟩:∃ q,q=wzc.heap.size+1:=⟨_,rfl⟩
 rw[←hh2] at ptc ⊢
 rw[←hh1] at pcc lz ⊢
 have Pcc:Hid (gd<hcc):=lz
 have Ptc:Hid (gd<htc):=(show gd<htc by omega)
 clear hh1 hh2 lz
 obtain ⟨k0,k1,k2,k3,k4,k5⟩:=vt rd
 go_wp2_with fail
 refine(exS_d _ Od.B bd vd Hd).mono ?_
 rintro e wzd ⟨Ad,asd,aod,afd,rfl,g1⟩
 have AFd:Hid (True∧True):=afd
 clear k0 k1 k2 k3 k4 k5 Hd afd
 replace ra:=ra.keep g1 (fun e=>by have h1:=Id.out ga (Or.inl e);have h2:=LL.out;omega)
 replace rb:=rb.keep g1 (fun e=>by have h1:=Id.out gb (Or.inl e);have h2:=LL.out;omega)
 replace rc:=rc.keep g1 (fun e=>by have h1:=Id.out gc (Or.inl e);have h2:=LL.out;omega)
 replace rd:=rd.keep g1 (fun e=>by have h1:=Id.out gd (Or.inl e);have h2:=LL.out;omega)
 replace pca:=pca.keep g1 (fun e=>by have h1:=Id.out _ (Or.inl e);have h2:=LL.out;have h3:=Pca.out;omega)
 replace pta:=pta.keep g1 (fun e=>by have h1:=Id.out _ (Or.inl e);have h2:=LL.out;have h3:=Pta.out;omega)
 replace pcb:=pcb.keep g1 (fun e=>by have h1:=Id.out _ (Or.inl e);have h2:=LL.out;have h3:=Pcb.out;omega)
 replace ptb:=ptb.keep g1 (fun e=>by have h1:=Id.out _ (Or.inl e);have h2:=LL.out;have h3:=Ptb.out;omega)
 replace pcc:=pcc.keep g1 (fun e=>by have h1:=Id.out _ (Or.inl e);have h2:=LL.out;have h3:=Pcc.out;omega)
 replace ptc:=ptc.keep g1 (fun e=>by have h1:=Id.out _ (Or.inl e);have h2:=LL.out;have h3:=Ptc.out;omega)
 replace f0:Fr bg w wzd:=⟨g1.os.trans f0.os,g1.tape.trans f0.tape,g1.output.trans f0.output,Nat.le_trans f0.size g1.size,fun k hk hn=>by
  rw[g1.block k (Nat.lt_of_lt_of_le hk f0.size) (fun e=>by have h1:=Id.out k (Or.inl e);have h2:=LL.out;omega)];exact f0.block k hk hn⟩
 have pc0:Row ((wzd.alloc (ω (cpA zc) 30)).alloc (ω #[U κ 0,U κ 0,U κ 0,U κ 0,U κ 0,U κ 0,β false,U κ 0] 52)) wzd.heap.size (cpA zc) 30:=(ba wzd (cpA zc) 30).alloc _
 have pt0:Row ((wzd.alloc (ω (cpA zc) 30)).alloc (ω #[U κ 0,U κ 0,U κ 0,U κ 0,U κ 0,U κ 0,β false,U κ 0] 52)) (wzd.heap.size+1) #[U κ 0,U κ 0,U κ 0,U κ 0,U κ 0,U κ 0,β false,U κ 0] 52:=dq (by simp)
 have pt1:=pt0.keep (bb _ wzd.heap.size Ad) (ne_new' (Nat.lt_succ_self _))
 have ls:(Tryz.prog.info? 30).map (·.size)=some Ad.size:=by rw[asd];exact kz
 have lo:(cpA zc).size=Ad.size:=by rw[asd];exact bj zc
 have lz:gd<wzd.heap.size:=rd.lt
 have g2:Fr bg wzd ((((wzd.alloc (ω (cpA zc) 30)).alloc (ω #[U κ 0,U κ 0,U κ 0,U κ 0,U κ 0,U κ 0,β false,U κ 0] 52)).setRow wzd.heap.size Ad).setRow (wzd.heap.size+1) #[U κ 5,U κ 3,U κ 0,U κ 0,U κ 0,U κ 0,β false,U κ 0]):=(((((Fr.refl bg wzd).alloc _).alloc _).newer (bb _ wzd.heap.size Ad) (Nat.le_refl _))).newer (bb _ (wzd.heap.size+1) _) (Nat.le_succ _)
 have pcd:Row ((((wzd.alloc (ω (cpA zc) 30)).alloc (ω #[U κ 0,U κ 0,U κ 0,U κ 0,U κ 0,U κ 0,β false,U κ 0] 52)).setRow wzd.heap.size Ad).setRow (wzd.heap.size+1) #[U κ 5,U κ 3,U κ 0,U κ 0,U κ 0,U κ 0,β false,U κ 0]) wzd.heap.size Ad 30:=(pc0.setRow).keep (bb _ (wzd.heap.size+1) _) (vn (Nat.lt_succ_self _))
 have ptd:Row ((((wzd.alloc (ω (cpA zc) 30)).alloc (ω #[U κ 0,U κ 0,U κ 0,U κ 0,U κ 0,U κ 0,β false,U κ 0] 52)).setRow wzd.heap.size Ad).setRow (wzd.heap.size+1) #[U κ 5,U κ 3,U κ 0,U κ 0,U κ 0,U κ 0,β false,U κ 0]) (wzd.heap.size+1) #[U κ 5,U κ 3,U κ 0,U κ 0,U κ 0,U κ 0,β false,U κ 0] 52:=pt1.setRow
 have GG:Hid (Fr bg wzd ((((wzd.alloc (ω (cpA zc) 30)).alloc (ω #[U κ 0,U κ 0,U κ 0,U κ 0,U κ 0,U κ 0,β false,U κ 0] 52)).setRow wzd.heap.size Ad).setRow (wzd.heap.size+1) #[U κ 5,U κ 3,U κ 0,U κ 0,U κ 0,U κ 0,β false,U κ 0])∧Row ((((wzd.alloc (ω (cpA zc) 30)).alloc (ω #[U κ 0,U κ 0,U κ 0,U κ 0,U κ 0,U κ 0,β false,U κ 0] 52)).setRow wzd.heap.size Ad).setRow (wzd.heap.size+1) #[U κ 5,U κ 3,U κ 0,U κ 0,U κ 0,U κ 0,β false,U κ 0]) wzd.heap.size Ad 30∧Row ((((wzd.alloc (ω (cpA zc) 30)).alloc (ω #[U κ 0,U κ 0,U κ 0,U κ 0,U κ 0,U κ 0,β false,U κ 0] 52)).setRow wzd.heap.size Ad).setRow (wzd.heap.size+1) #[U κ 5,U κ 3,U κ 0,U κ 0,U κ 0,U κ 0,β false,U κ 0]) (wzd.heap.size+1) #[U κ 5,U κ 3,U κ 0,U κ 0,U κ 0,U κ 0,β false,U κ 0] 52):=⟨g2,pcd,ptd⟩
 clear g1 g2 pcd ptd pt0
 go_upto_region 13 with(first | refine wpList_store_row rfl 30 _ _ rfl wzd.heap.size Ad rfl rfl 30 (cpA zc) pc0 ls lo aod ?_ | refine wpList_store_row rfl 52 _ _ rfl (wzd.heap.size+1) #[U κ 5,U κ 3,U κ 0,U κ 0,U κ 0,U κ 0,β false,U κ 0] rfl rfl 52 #[U κ 0,U κ 0,U κ 0,U κ 0,U κ 0,U κ 0,β false,U κ 0] pt1 bn rfl (by simp[Value.oneCell']) ?_)
 clear pc0 pt1 ls lo
 obtain ⟨g2,pcd,ptd⟩:=GG.out
 clear GG
 replace ra:=ra.keep g2 (fun h=>h)
 replace rb:=rb.keep g2 (fun h=>h)
 replace rc:=rc.keep g2 (fun h=>h)
 replace rd:=rd.keep g2 (fun h=>h)
 replace pca:=pca.keep g2 (fun h=>h)
 replace pta:=pta.keep g2 (fun h=>h)
 replace pcb:=pcb.keep g2 (fun h=>h)
 replace ptb:=ptb.keep g2 (fun h=>h)
 replace pcc:=pcc.keep g2 (fun h=>h)
 replace ptc:=ptc.keep g2 (fun h=>h)
 replace f0:=f0.trans g2
 clear g2
 obtain ⟨td,ht⟩:∃ u,u=((((wzd.alloc (ω (cpA zc) 30)).alloc (ω #[U κ 0,U κ 0,U κ 0,U κ 0,U κ 0,U κ 0,β false,U κ 0] 52)).setRow wzd.heap.size Ad).setRow (wzd.heap.size+1) #[U κ 5,U κ 3,U κ 0,U κ 0,U κ 0,U κ 0,β false,U κ 0]):=⟨_,rfl⟩
 rw[←ht] at f0 pcd ptd ra rb rc rd pca pta pcb ptb pcc ptc  ⊢
 clear ht
 obtain ⟨hcd,hh1⟩:∃ q,q=wzd.heap.size:=⟨_,rfl⟩
 obtain ⟨htd,hh2⟩:∃ q,q=wzd.heap.size+1:=⟨_,rfl⟩
 rw[←hh2] at ptd ⊢
 rw[←hh1] at pcd lz ⊢
 have Pcd:Hid (gd<hcd):=lz
 have Ptd:Hid (gd<htd):=(show gd<htd by omega)
 clear hh1 hh2 lz
 have w1:=(pca.cell 1).trans AFa.out.1
 have w2:=(pca.cell 16).trans AFa.out.2
 have w3:=(pcb.cell 2).trans AFb.out.1
 clear pca pcb pcc pcd AFa AFb AFc AFd ra rb rc rd
 obtain ⟨ma0,ma1,ma2,ma3,ma4,ma5,ma6,ma7⟩:=jd pta
 obtain ⟨mb0,mb1,mb2,mb3,mb4,mb5,mb6,mb7⟩:=jd ptb
 obtain ⟨mc0,mc1,mc2,mc3,mc4,mc5,mc6,mc7⟩:=jd ptc
 obtain ⟨md0,md1,md2,md3,md4,md5,md6,md7⟩:=jd ptd
 go_wp2_with fail
 go_ret
 exact ⟨rfl,f0⟩
end Go.Proofs.YtibhbjbpodlpiaaGreat
