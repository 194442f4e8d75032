/-
  Contracts over the translation. No statement is proved here.
-/
import Derived.Test.YtibhbjbpodlpiaaGreatQJN
set_option maxRecDepth 100000
set_option maxHeartbeats 8000000
namespace Go.Proofs.YtibhbjbpodlpiaaGreat
open Go.RowKit
open Go.Value renaming int → U, bool → β, pointer → π, tuple → τ
open Go.IntKind renaming i64 → κ, u32 → μ
open Go.Obj renaming cells → ω
open Go.Ending renaming returned → ρ
open Go.Proofs.Tryz renaming prog → pQ
theorem me (w:World) (B:Bm) (nf bx:Nat) (M:Mc) (X:Wk) (bc fn:Nat) (g:Nat→Nat→Nat) (hg:∀ a b,a<4294967296→b<4294967296→g a b<4294967296) (hc:w.cell? ⟨bc,0,none⟩=some (.func (.func fn) #[] #[]))
  (hen:∀ (args:Array Value) (w1:World),(callFunc fn args).run pQ w1=.ok (.enter fn args) w1)
  (hF:∀ (a b:Nat) (w1:World),a<4294967296→b<4294967296→Calls pQ fn #[U μ (a:Int),U μ (b:Int)] w1 fun e w'=>e=ρ (U μ ((g a b:Nat):Int))∧w'=w1)
  (h:Jb w B nf bx M X) :
  Calls pQ 111 #[π (some ⟨bx,0,none⟩),π (some ⟨bc,0,none⟩)] w (Aft w B nf bx M { X with z:=X.z.setR X.a (g (X.z.r X.b) (X.z.r X.c)) }):=by
 have nb:¬ at' bx bc:=fun e=>by have e':bc=bx:=e;rw[e',h.x.k0] at hc;cases hc
 have hcc:=h.c
 have i1:0≤(X.c:Int)∧(X.c:Int)<16:=by omega
 have c13:=h.x.k13
 have cr:=h.x.reg h.c
 have hb:=h.ok.r X.b
 have hc3:=h.ok.r X.c
 have hG:=hg _ _ hb hc3
 have hF':=fun w1=>hF (X.z.r X.b) (X.z.r X.c) w1 hb hc3
 obtain ⟨y,hy⟩:∃ y,g (X.z.r X.b) (X.z.r X.c)=y:=⟨_,rfl⟩
 rw[hy] at hG hF' ⊢
 clear hy hcc hb hc3 hg hF
 have f0:=Fr.refl bg w
 go_enter Tryz.func111,Tryz.ntmps111
 go_wp2_with fail
 go_region_with (first
  | (go_at_call 112;refine(b_any _ _ _ h.drew.x h.b).mono ?_;rintro e v ⟨rfl,m,rfl⟩;obtain ⟨v,hv,fv⟩:=nk (w:=w.drew) m;rw[←hv];have hJ:=h.drew.keep0 fv;have d1:=cd fv (show w.drew.cell? _=_ from hc) (fun h=>h);have d2:=cd fv (show w.drew.cell? _=_ from c13) (fun h=>h);have d3:=cd fv (show w.drew.cell? _=_ from cr) (fun h=>h);replace f0:=f0.drew.trans fv;clear hv fv)
  | (go_at_call 110;refine(qj _ _ _ _ hJ.x hJ.a).mono ?_;rintro e v2 ⟨⟨u,rfl⟩,f2,h2⟩;have k1:=cd f2 d1 nb;have k2:=h2.k13)
  | (refine(hF' _).mono ?_;rintro e v1 ⟨rfl,rfl⟩))
 all_goals go_wp2_with fail
 all_goals refine j9 rfl rfl fun u=>?_
 all_goals exact ⟨⟨u,rfl⟩,(ro f0).trans (fr_x f2),hJ.turn f2 h2 (hJ.ok.setR _ hG)⟩
theorem kc (w:World) (fn:Nat) (caps:Array Value) (n:Nat) (hn:w.heap.size=n):Calls pQ 58 #[.func (.func fn) #[] caps] w fun e w'=>e=ρ (.func (.func 109) #[] #[π (some ⟨n,0,none⟩)])∧Fr bg w w'∧w'.heap.size=n+1∧Row w' n #[.func (.func fn) #[] caps] 155:=by
 subst hn
 go_enter Tryz.func58,Tryz.ntmps58
 go_wp2_with fail
 go_ret
 exact ⟨rfl,(Fr.refl _ _).alloc _,by simp,ba _ _ _⟩
theorem load_mk (w:World) (k:Int) (n:Nat) (hn:w.heap.size=n):Calls pQ 66 #[U κ k] w fun e w'=>e=ρ (.func (.func 113) #[] #[π (some ⟨n,0,none⟩)])∧Fr bg w w'∧w'.heap.size=n+1∧Row w' n #[U κ k] 3:=by
 subst hn
 go_enter Tryz.func66,Tryz.ntmps66
 go_wp2_with fail
 go_ret
 exact ⟨rfl,(Fr.refl _ _).alloc _,by simp,ba _ _ _⟩
theorem store_mk (w:World) (k:Int) (n:Nat) (hn:w.heap.size=n):Calls pQ 67 #[U κ k] w fun e w'=>e=ρ (.func (.func 115) #[] #[π (some ⟨n,0,none⟩)])∧Fr bg w w'∧w'.heap.size=n+1∧Row w' n #[U κ k] 3:=by
 subst hn
 go_enter Tryz.func67,Tryz.ntmps67
 go_wp2_with fail
 go_ret
 exact ⟨rfl,(Fr.refl _ _).alloc _,by simp,ba _ _ _⟩
theorem call_mk (w:World) (k:Int) (n:Nat) (hn:w.heap.size=n):Calls pQ 75 #[U κ k] w fun e w'=>e=ρ (.func (.func 118) #[] #[π (some ⟨n,0,none⟩)])∧Fr bg w w'∧w'.heap.size=n+1∧Row w' n #[U κ k] 3:=by
 subst hn
 go_enter Tryz.func75,Tryz.ntmps75
 go_wp2_with fail
 go_ret
 exact ⟨rfl,(Fr.refl _ _).alloc _,by simp,ba _ _ _⟩
theorem nl (w:World) (fn:Nat) (n:Nat) (hn:w.heap.size=n):Calls pQ 60 #[.func (.func fn) #[] #[]] w fun e w'=>e=ρ (.func (.func 109) #[] #[π (some ⟨n+1,0,none⟩)])∧Fr bg w w'∧w'.heap.size=n+1+1∧Row w' n #[.func (.func fn) #[] #[]] 159∧Row w' (n+1) #[.func (.func 111) #[] #[π (some ⟨n,0,none⟩)]] 155:=by
 subst hn
 have f1:=(Fr.refl bg w).alloc (ω #[.func (.func fn) #[] #[]] 159)
 have r1:=ba w #[.func (.func fn) #[] #[]] 159
 go_enter Tryz.func60,Tryz.ntmps60
 go_wp2_with fail
 refine(kc _ _ _ (w.heap.size+1) (by simp)).mono ?_
 rintro e v ⟨rfl,g,s,r⟩
 replace r1:=r1.keep g (fun h=>h)
 have f2:=f1.trans g
 clear f1 g
 go_wp2_with fail
 go_ret
 exact ⟨rfl,f2,s,r1,r⟩
theorem yq (w:World) (fn:Nat) (n:Nat) (hn:w.heap.size=n):Calls pQ 68 #[.func (.func fn) #[] #[]] w fun e w'=>e=ρ (.func (.func 109) #[] #[π (some ⟨n+1,0,none⟩)])∧Fr bg w w'∧w'.heap.size=n+1+1∧Row w' n #[.func (.func fn) #[] #[]] 162∧Row w' (n+1) #[.func (.func 117) #[] #[π (some ⟨n,0,none⟩)]] 155:=by
 subst hn
 have f1:=(Fr.refl bg w).alloc (ω #[.func (.func fn) #[] #[]] 162)
 have r1:=ba w #[.func (.func fn) #[] #[]] 162
 go_enter Tryz.func68,Tryz.ntmps68
 go_wp2_with fail
 refine(kc _ _ _ (w.heap.size+1) (by simp)).mono ?_
 rintro e v ⟨rfl,g,s,r⟩
 replace r1:=r1.keep g (fun h=>h)
 have f2:=f1.trans g
 clear f1 g
 go_wp2_with fail
 go_ret
 exact ⟨rfl,f2,s,r1,r⟩
def opsA (N:Nat):Array Value:=#[β false,.nilFunc,β false,.func (.func 109) #[] #[π (some ⟨N,0,none⟩)],β false,.func (.func 109) #[] #[π (some ⟨N+2,0,none⟩)],β false,.func (.func 109) #[] #[π (some ⟨N+4,0,none⟩)],β false,.func (.func 109) #[] #[π (some ⟨N+6,0,none⟩)],β false,.func (.func 109) #[] #[π (some ⟨N+8,0,none⟩)],β false,.func (.func 109) #[] #[π (some ⟨N+10,0,none⟩)],β false,.func (.func 113) #[] #[π (some ⟨N+11,0,none⟩)],β false,.func (.func 115) #[] #[π (some ⟨N+12,0,none⟩)],β false,.func (.func 113) #[] #[π (some ⟨N+13,0,none⟩)],β false,.func (.func 115) #[] #[π (some ⟨N+14,0,none⟩)],β false,.func (.func 109) #[] #[π (some ⟨N+16,0,none⟩)],β false,.func (.func 109) #[] #[π (some ⟨N+18,0,none⟩)],β false,.func (.func 109) #[] #[π (some ⟨N+20,0,none⟩)],β false,.func (.func 109) #[] #[π (some ⟨N+21,0,none⟩)],β false,.func (.func 109) #[] #[π (some ⟨N+22,0,none⟩)],β false,.func (.func 109) #[] #[π (some ⟨N+23,0,none⟩)],β true,.func (.func 118) #[] #[π (some ⟨N+24,0,none⟩)],β false,.func (.func 118) #[] #[π (some ⟨N+25,0,none⟩)],β true,.func (.func 76) #[] #[],β true,.func (.func 77) #[] #[],β false,.func (.func 78) #[] #[],β true,.func (.func 109) #[] #[π (some ⟨N+26,0,none⟩)],β true,.func (.func 80) #[] #[],β true,.func (.func 109) #[] #[π (some ⟨N+27,0,none⟩)],β false,.func (.func 109) #[] #[π (some ⟨N+28,0,none⟩)]]
structure Ops (w:World) (N:Nat):Prop where
 list:Row w (N+29) (opsA N) 157
 b0:Row w (N) #[.func (.func 59) #[] #[]] 155
 b1:Row w (N+1) #[.func (.func 61) #[] #[]] 159
 b2:Row w (N+2) #[.func (.func 111) #[] #[π (some ⟨N+1,0,none⟩)]] 155
 b3:Row w (N+3) #[.func (.func 62) #[] #[]] 159
 b4:Row w (N+4) #[.func (.func 111) #[] #[π (some ⟨N+3,0,none⟩)]] 155
 b5:Row w (N+5) #[.func (.func 63) #[] #[]] 159
 b6:Row w (N+6) #[.func (.func 111) #[] #[π (some ⟨N+5,0,none⟩)]] 155
 b7:Row w (N+7) #[.func (.func 64) #[] #[]] 159
 b8:Row w (N+8) #[.func (.func 111) #[] #[π (some ⟨N+7,0,none⟩)]] 155
 b9:Row w (N+9) #[.func (.func 65) #[] #[]] 159
 b10:Row w (N+10) #[.func (.func 111) #[] #[π (some ⟨N+9,0,none⟩)]] 155
 b11:Row w (N+11) #[U κ 4] 3
 b12:Row w (N+12) #[U κ 4] 3
 b13:Row w (N+13) #[U κ 1] 3
 b14:Row w (N+14) #[U κ 1] 3
 b15:Row w (N+15) #[.func (.func 69) #[] #[]] 162
 b16:Row w (N+16) #[.func (.func 117) #[] #[π (some ⟨N+15,0,none⟩)]] 155
 b17:Row w (N+17) #[.func (.func 70) #[] #[]] 162
 b18:Row w (N+18) #[.func (.func 117) #[] #[π (some ⟨N+17,0,none⟩)]] 155
 b19:Row w (N+19) #[.func (.func 71) #[] #[]] 162
 b20:Row w (N+20) #[.func (.func 117) #[] #[π (some ⟨N+19,0,none⟩)]] 155
 b21:Row w (N+21) #[.func (.func 72) #[] #[]] 155
 b22:Row w (N+22) #[.func (.func 73) #[] #[]] 155
 b23:Row w (N+23) #[.func (.func 74) #[] #[]] 155
 b24:Row w (N+24) #[U κ 5] 3
 b25:Row w (N+25) #[U κ 6] 3
 b26:Row w (N+26) #[.func (.func 79) #[] #[]] 155
 b27:Row w (N+27) #[.func (.func 81) #[] #[]] 155
 b28:Row w (N+28) #[.func (.func 82) #[] #[]] 155
theorem Ops.keep {S:Nat→Prop} {w w':World} {N:Nat} (h:Ops w N) (f:Fr S w w') (hs:∀ k,N≤k→k<N+30→¬ S k):Ops w' N:=
 ⟨h.list.keep f (hs _ (by omega) (by omega)),h.b0.keep f (hs _ (by omega) (by omega)),h.b1.keep f (hs _ (by omega) (by omega)),h.b2.keep f (hs _ (by omega) (by omega)),h.b3.keep f (hs _ (by omega) (by omega)),h.b4.keep f (hs _ (by omega) (by omega)),h.b5.keep f (hs _ (by omega) (by omega)),h.b6.keep f (hs _ (by omega) (by omega)),h.b7.keep f (hs _ (by omega) (by omega)),h.b8.keep f (hs _ (by omega) (by omega)),h.b9.keep f (hs _ (by omega) (by omega)),h.b10.keep f (hs _ (by omega) (by omega)),h.b11.keep f (hs _ (by omega) (by omega)),h.b12.keep f (hs _ (by omega) (by omega)),h.b13.keep f (hs _ (by omega) (by omega)),h.b14.keep f (hs _ (by omega) (by omega)),h.b15.keep f (hs _ (by omega) (by omega)),h.b16.keep f (hs _ (by omega) (by omega)),h.b17.keep f (hs _ (by omega) (by omega)),h.b18.keep f (hs _ (by omega) (by omega)),h.b19.keep f (hs _ (by omega) (by omega)),h.b20.keep f (hs _ (by omega) (by omega)),h.b21.keep f (hs _ (by omega) (by omega)),h.b22.keep f (hs _ (by omega) (by omega)),h.b23.keep f (hs _ (by omega) (by omega)),h.b24.keep f (hs _ (by omega) (by omega)),h.b25.keep f (hs _ (by omega) (by omega)),h.b26.keep f (hs _ (by omega) (by omega)),h.b27.keep f (hs _ (by omega) (by omega)),h.b28.keep f (hs _ (by omega) (by omega))⟩
theorem Ops.lt {w:World} {N:Nat} (h:Ops w N):N+30≤w.heap.size:=h.list.lt
def blk (N:Nat):Nat→Value
 | 0=>.func (.func 59) #[] #[]
 | 1=>.func (.func 61) #[] #[]
 | 2=>.func (.func 111) #[] #[π (some ⟨N+1,0,none⟩)]
 | 3=>.func (.func 62) #[] #[]
 | 4=>.func (.func 111) #[] #[π (some ⟨N+3,0,none⟩)]
 | 5=>.func (.func 63) #[] #[]
 | 6=>.func (.func 111) #[] #[π (some ⟨N+5,0,none⟩)]
 | 7=>.func (.func 64) #[] #[]
 | 8=>.func (.func 111) #[] #[π (some ⟨N+7,0,none⟩)]
 | 9=>.func (.func 65) #[] #[]
 | 10=>.func (.func 111) #[] #[π (some ⟨N+9,0,none⟩)]
 | 11=>U κ 4
 | 12=>U κ 4
 | 13=>U κ 1
 | 14=>U κ 1
 | 15=>.func (.func 69) #[] #[]
 | 16=>.func (.func 117) #[] #[π (some ⟨N+15,0,none⟩)]
 | 17=>.func (.func 70) #[] #[]
 | 18=>.func (.func 117) #[] #[π (some ⟨N+17,0,none⟩)]
 | 19=>.func (.func 71) #[] #[]
 | 20=>.func (.func 117) #[] #[π (some ⟨N+19,0,none⟩)]
 | 21=>.func (.func 72) #[] #[]
 | 22=>.func (.func 73) #[] #[]
 | 23=>.func (.func 74) #[] #[]
 | 24=>U κ 5
 | 25=>U κ 6
 | 26=>.func (.func 79) #[] #[]
 | 27=>.func (.func 81) #[] #[]
 | 28=>.func (.func 82) #[] #[]
 | _=>.nilFunc
def bty:Nat→TypeId
 | 0=>155
 | 1=>159
 | 2=>155
 | 3=>159
 | 4=>155
 | 5=>159
 | 6=>155
 | 7=>159
 | 8=>155
 | 9=>159
 | 10=>155
 | 11=>3
 | 12=>3
 | 13=>3
 | 14=>3
 | 15=>162
 | 16=>155
 | 17=>162
 | 18=>155
 | 19=>162
 | 20=>155
 | 21=>155
 | 22=>155
 | 23=>155
 | 24=>3
 | 25=>3
 | 26=>155
 | 27=>155
 | 28=>155
 | _=>0
def Pre (w:World) (N k:Nat):Prop:=∀ j,j<k→Row w (N+j) #[blk N j] (bty j)
theorem dj {w w':World} {N k:Nat} (h:Pre w N k) (f:Fr bg w w') (r:Row w' (N+k) #[blk N k] (bty k)):Pre w' N (k+1):=fun j hj=>by
 by_cases e:j=k
 ·subst e;exact r
 ·exact(h j (by omega)).keep f (fun h=>h)
theorem ops_any (w:World) (N:Nat) (hN:w.heap.size=N):Calls pQ 28 #[] w fun e w'=>e=ρ (.slice (some ⟨N+29,0,none⟩) 26 26)∧Fr bg w w'∧Ops w' N:=by
 have f:=Fr.refl bg w
 have hp:Hid (Pre w N 0):=fun j hj=>absurd hj (by omega)
 have hs:Hid (w.heap.size=N):=hN
 go_enter Tryz.func28,Tryz.ntmps28
 clear hN
 go_wp2_with fail
 refine(kc _ _ _ N hs.out).mono ?_
 rintro e v0 ⟨rfl,g,s,r⟩
 replace hp:Hid (Pre v0 N 1):=dj hp.out g r
 replace hs:Hid (v0.heap.size=N+1):=s
 replace f:=f.trans g
 clear g s r
 go_wp2_with fail
 refine(nl _ _ (N+1) hs.out).mono ?_
 rintro e v1 ⟨rfl,g,s,r,r'⟩
 replace hp:Hid (Pre v1 N 3):=dj (dj hp.out g r) (Fr.refl _ _) r'
 replace hs:Hid (v1.heap.size=N+3):=s
 replace f:=f.trans g
 clear g s r r' v0
 go_wp2_with fail
 refine(nl _ _ (N+3) hs.out).mono ?_
 rintro e v2 ⟨rfl,g,s,r,r'⟩
 replace hp:Hid (Pre v2 N 5):=dj (dj hp.out g r) (Fr.refl _ _) r'
 replace hs:Hid (v2.heap.size=N+5):=s
 replace f:=f.trans g
 clear g s r r' v1
 go_wp2_with fail
 refine(nl _ _ (N+5) hs.out).mono ?_
 rintro e v3 ⟨rfl,g,s,r,r'⟩
 replace hp:Hid (Pre v3 N 7):=dj (dj hp.out g r) (Fr.refl _ _) r'
 replace hs:Hid (v3.heap.size=N+7):=s
 replace f:=f.trans g
 clear g s r r' v2
 go_wp2_with fail
 refine(nl _ _ (N+7) hs.out).mono ?_
 rintro e v4 ⟨rfl,g,s,r,r'⟩
 replace hp:Hid (Pre v4 N 9):=dj (dj hp.out g r) (Fr.refl _ _) r'
 replace hs:Hid (v4.heap.size=N+9):=s
 replace f:=f.trans g
 clear g s r r' v3
 go_wp2_with fail
 refine(nl _ _ (N+9) hs.out).mono ?_
 rintro e v5 ⟨rfl,g,s,r,r'⟩
 replace hp:Hid (Pre v5 N 11):=dj (dj hp.out g r) (Fr.refl _ _) r'
 replace hs:Hid (v5.heap.size=N+11):=s
 replace f:=f.trans g
 clear g s r r' v4
 go_wp2_with fail
 refine(load_mk _ _ (N+11) hs.out).mono ?_
 rintro e v6 ⟨rfl,g,s,r⟩
 replace hp:Hid (Pre v6 N 12):=dj hp.out g r
 replace hs:Hid (v6.heap.size=N+12):=s
 replace f:=f.trans g
 clear g s r v5
 go_wp2_with fail
 refine(store_mk _ _ (N+12) hs.out).mono ?_
 rintro e v7 ⟨rfl,g,s,r⟩
 replace hp:Hid (Pre v7 N 13):=dj hp.out g r
 replace hs:Hid (v7.heap.size=N+13):=s
 replace f:=f.trans g
 clear g s r v6
 go_wp2_with fail
 refine(load_mk _ _ (N+13) hs.out).mono ?_
 rintro e v8 ⟨rfl,g,s,r⟩
 replace hp:Hid (Pre v8 N 14):=dj hp.out g r
 replace hs:Hid (v8.heap.size=N+14):=s
 replace f:=f.trans g
 clear g s r v7
 go_wp2_with fail
 refine(store_mk _ _ (N+14) hs.out).mono ?_
 rintro e v9 ⟨rfl,g,s,r⟩
 replace hp:Hid (Pre v9 N 15):=dj hp.out g r
 replace hs:Hid (v9.heap.size=N+15):=s
 replace f:=f.trans g
 clear g s r v8
 go_wp2_with fail
 refine(yq _ _ (N+15) hs.out).mono ?_
 rintro e v10 ⟨rfl,g,s,r,r'⟩
 replace hp:Hid (Pre v10 N 17):=dj (dj hp.out g r) (Fr.refl _ _) r'
 replace hs:Hid (v10.heap.size=N+17):=s
 replace f:=f.trans g
 clear g s r r' v9
 go_wp2_with fail
 refine(yq _ _ (N+17) hs.out).mono ?_
 rintro e v11 ⟨rfl,g,s,r,r'⟩
 replace hp:Hid (Pre v11 N 19):=dj (dj hp.out g r) (Fr.refl _ _) r'
 replace hs:Hid (v11.heap.size=N+19):=s
 replace f:=f.trans g
 clear g s r r' v10
 go_wp2_with fail
 refine(yq _ _ (N+19) hs.out).mono ?_
 rintro e v12 ⟨rfl,g,s,r,r'⟩
 replace hp:Hid (Pre v12 N 21):=dj (dj hp.out g r) (Fr.refl _ _) r'
 replace hs:Hid (v12.heap.size=N+21):=s
 replace f:=f.trans g
 clear g s r r' v11
 go_wp2_with fail
 refine(kc _ _ _ (N+21) hs.out).mono ?_
 rintro e v13 ⟨rfl,g,s,r⟩
 replace hp:Hid (Pre v13 N 22):=dj hp.out g r
 replace hs:Hid (v13.heap.size=N+22):=s
 replace f:=f.trans g
 clear g s r v12
 go_wp2_with fail
 refine(kc _ _ _ (N+22) hs.out).mono ?_
 rintro e v14 ⟨rfl,g,s,r⟩
 replace hp:Hid (Pre v14 N 23):=dj hp.out g r
 replace hs:Hid (v14.heap.size=N+23):=s
 replace f:=f.trans g
 clear g s r v13
 go_wp2_with fail
 refine(kc _ _ _ (N+23) hs.out).mono ?_
 rintro e v15 ⟨rfl,g,s,r⟩
 replace hp:Hid (Pre v15 N 24):=dj hp.out g r
 replace hs:Hid (v15.heap.size=N+24):=s
 replace f:=f.trans g
 clear g s r v14
 go_wp2_with fail
 refine(call_mk _ _ (N+24) hs.out).mono ?_
 rintro e v16 ⟨rfl,g,s,r⟩
 replace hp:Hid (Pre v16 N 25):=dj hp.out g r
 replace hs:Hid (v16.heap.size=N+25):=s
 replace f:=f.trans g
 clear g s r v15
 go_wp2_with fail
 refine(call_mk _ _ (N+25) hs.out).mono ?_
 rintro e v17 ⟨rfl,g,s,r⟩
 replace hp:Hid (Pre v17 N 26):=dj hp.out g r
 replace hs:Hid (v17.heap.size=N+26):=s
 replace f:=f.trans g
 clear g s r v16
 go_wp2_with fail
 refine(kc _ _ _ (N+26) hs.out).mono ?_
 rintro e v18 ⟨rfl,g,s,r⟩
 replace hp:Hid (Pre v18 N 27):=dj hp.out g r
 replace hs:Hid (v18.heap.size=N+27):=s
 replace f:=f.trans g
 clear g s r v17
 go_wp2_with fail
 refine(kc _ _ _ (N+27) hs.out).mono ?_
 rintro e v19 ⟨rfl,g,s,r⟩
 replace hp:Hid (Pre v19 N 28):=dj hp.out g r
 replace hs:Hid (v19.heap.size=N+28):=s
 replace f:=f.trans g
 clear g s r v18
 go_wp2_with fail
 refine(kc _ _ _ (N+28) hs.out).mono ?_
 rintro e v20 ⟨rfl,g,s,r⟩
 replace hp:Hid (Pre v20 N 29):=dj hp.out g r
 replace hs:Hid (v20.heap.size=N+29):=s
 replace f:=f.trans g
 clear g s r v19
 go_wp2_with fail
 rw[hs.out]
 go_ret
 have q:=(Fr.refl bg v20).alloc (ω (opsA N) 157)
 have hq:∀ j,j<29→Row (v20.alloc (ω (opsA N) 157)) (N+j) #[blk N j] (bty j):=fun j hj=>(hp.out j hj).keep q (fun h=>h)
 have hl:Row (v20.alloc (ω (opsA N) 157)) (N+29) (opsA N) 157:=by have:=ba v20 (opsA N) 157;rw[hs.out] at this;exact this
 exact ⟨rfl,f.trans q,⟨hl,hq 0 (by omega),hq 1 (by omega),hq 2 (by omega),hq 3 (by omega),hq 4 (by omega),hq 5 (by omega),hq 6 (by omega),hq 7 (by omega),hq 8 (by omega),hq 9 (by omega),hq 10 (by omega),hq 11 (by omega),hq 12 (by omega),hq 13 (by omega),hq 14 (by omega),hq 15 (by omega),hq 16 (by omega),hq 17 (by omega),hq 18 (by omega),hq 19 (by omega),hq 20 (by omega),hq 21 (by omega),hq 22 (by omega),hq 23 (by omega),hq 24 (by omega),hq 25 (by omega),hq 26 (by omega),hq 27 (by omega),hq 28 (by omega)⟩⟩
section
open Go.RowKit
def vu (w:World) (N B':Nat) (B:Bm) (nf bx:Nat) (M:Mc) (X:Wk):Prop:=
 ∃ (fn:Nat) (caps:Array Value),w.cell? ⟨N+29,B' * 2,none⟩=some (β (isG B'))∧w.cell? ⟨N+29,B' * 2+1,none⟩=some (.func (.func fn) #[] caps) ∧
  (∀ (args:Array Value) (w1:World),(callFunc fn args).run pQ w1=.ok (.enter fn args) w1) ∧
  ((isG B'=true→∃ b S,B.v=some b∧M.V=some S)→Calls pQ fn (#[π (some ⟨bx,0,none⟩)] ++ caps) w (Don w B nf bx (ji nf M X).1 (ji nf M X).2.1 (ji nf M X).2.2))
section
variable (w:World) (N:Nat) (B:Bm) (nf bx:Nat) (M:Mc) (X:Wk) (h:Ops w N) (J:Jb w B nf bx M X) {n:Nat} (hm:M.few n) (hn:n<999990) (sep:∀ k,B.y bx k→k<N∨N+30≤k)
include h J in
theorem at_1 (ho:X.op=1):vu w N 1 B nf bx M X:=by
 refine ⟨109,#[π (some ⟨N,0,none⟩)],(h.list.cell _).trans rfl,(h.list.cell _).trans rfl,enters_of Tryz.func109 (by kernel_rfl) rfl,fun hG=>?_⟩
 unfold ji
 rw[ho]
 exact d9 w B nf bx M _ X _ (N) 59 #[] (h.b0.cell 0) (enters_of Tryz.func59 (by kernel_rfl) rfl) J (fun w1 f1 J1=>take_any w1 B nf bx M X J1)
include h J in
theorem at_2 (ho:X.op=2):vu w N 2 B nf bx M X:=by
 refine ⟨109,#[π (some ⟨N+2,0,none⟩)],(h.list.cell _).trans rfl,(h.list.cell _).trans rfl,enters_of Tryz.func109 (by kernel_rfl) rfl,fun hG=>?_⟩
 unfold ji
 rw[ho]
 exact d9 w B nf bx M _ X _ (N+2) 111 #[π (some ⟨N+1,0,none⟩)] (h.b2.cell 0) (enters_of Tryz.func111 (by kernel_rfl) rfl) J (fun w1 f1 J1=>me w1 B nf bx M X (N+1) 61 gAdd (fun a b _ _=>gAdd_lt a b) ((h.keep f1 (fun _ _ _ h=>h)).b1.cell 0) (enters_of Tryz.func61 (by kernel_rfl) rfl) (fun a b w ha hb=>op1_any a b w) J1)
include h J in
theorem at_3 (ho:X.op=3):vu w N 3 B nf bx M X:=by
 refine ⟨109,#[π (some ⟨N+4,0,none⟩)],(h.list.cell _).trans rfl,(h.list.cell _).trans rfl,enters_of Tryz.func109 (by kernel_rfl) rfl,fun hG=>?_⟩
 unfold ji
 rw[ho]
 exact d9 w B nf bx M _ X _ (N+4) 111 #[π (some ⟨N+3,0,none⟩)] (h.b4.cell 0) (enters_of Tryz.func111 (by kernel_rfl) rfl) J (fun w1 f1 J1=>me w1 B nf bx M X (N+3) 62 gSub (fun a b _ _=>gSub_lt a b) ((h.keep f1 (fun _ _ _ h=>h)).b3.cell 0) (enters_of Tryz.func62 (by kernel_rfl) rfl) (fun a b w ha hb=>op2_any a b w ha hb) J1)
include h J in
theorem at_4 (ho:X.op=4):vu w N 4 B nf bx M X:=by
 refine ⟨109,#[π (some ⟨N+6,0,none⟩)],(h.list.cell _).trans rfl,(h.list.cell _).trans rfl,enters_of Tryz.func109 (by kernel_rfl) rfl,fun hG=>?_⟩
 unfold ji
 rw[ho]
 exact d9 w B nf bx M _ X _ (N+6) 111 #[π (some ⟨N+5,0,none⟩)] (h.b6.cell 0) (enters_of Tryz.func111 (by kernel_rfl) rfl) J (fun w1 f1 J1=>me w1 B nf bx M X (N+5) 63 gAnd (fun a b ha _=>gAnd_lt a b ha) ((h.keep f1 (fun _ _ _ h=>h)).b5.cell 0) (enters_of Tryz.func63 (by kernel_rfl) rfl) (fun a b w ha hb=>op3_any a b w ha hb) J1)
include h J in
theorem at_5 (ho:X.op=5):vu w N 5 B nf bx M X:=by
 refine ⟨109,#[π (some ⟨N+8,0,none⟩)],(h.list.cell _).trans rfl,(h.list.cell _).trans rfl,enters_of Tryz.func109 (by kernel_rfl) rfl,fun hG=>?_⟩
 unfold ji
 rw[ho]
 exact d9 w B nf bx M _ X _ (N+8) 111 #[π (some ⟨N+7,0,none⟩)] (h.b8.cell 0) (enters_of Tryz.func111 (by kernel_rfl) rfl) J (fun w1 f1 J1=>me w1 B nf bx M X (N+7) 64 gXor (fun a b ha hb=>gXor_lt a b ha hb) ((h.keep f1 (fun _ _ _ h=>h)).b7.cell 0) (enters_of Tryz.func64 (by kernel_rfl) rfl) (fun a b w ha hb=>op4_any a b w ha hb) J1)
include h J in
theorem at_6 (ho:X.op=6):vu w N 6 B nf bx M X:=by
 refine ⟨109,#[π (some ⟨N+10,0,none⟩)],(h.list.cell _).trans rfl,(h.list.cell _).trans rfl,enters_of Tryz.func109 (by kernel_rfl) rfl,fun hG=>?_⟩
 unfold ji
 rw[ho]
 exact d9 w B nf bx M _ X _ (N+10) 111 #[π (some ⟨N+9,0,none⟩)] (h.b10.cell 0) (enters_of Tryz.func111 (by kernel_rfl) rfl) J (fun w1 f1 J1=>me w1 B nf bx M X (N+9) 65 gShl (fun a b _ _=>gShl_lt a b) ((h.keep f1 (fun _ _ _ h=>h)).b9.cell 0) (enters_of Tryz.func65 (by kernel_rfl) rfl) (fun a b w ha hb=>op5_any a b w ha hb) J1)
include h J hm hn sep in
theorem at_7 (ho:X.op=7):vu w N 7 B nf bx M X:=by
 refine ⟨113,#[π (some ⟨N+11,0,none⟩)],(h.list.cell _).trans rfl,(h.list.cell _).trans rfl,enters_of Tryz.func113 (by kernel_rfl) rfl,fun hG=>?_⟩
 unfold ji
 rw[ho]
 exact load1_any w B nf bx M X (N+11) 4 (h.b11.cell 0) (fun e=>by have:=sep _ e;omega) J hm hn (by omega)
include h J hm hn sep in
theorem at_8 (ho:X.op=8):vu w N 8 B nf bx M X:=by
 refine ⟨115,#[π (some ⟨N+12,0,none⟩)],(h.list.cell _).trans rfl,(h.list.cell _).trans rfl,enters_of Tryz.func115 (by kernel_rfl) rfl,fun hG=>?_⟩
 unfold ji
 rw[ho]
 exact store1_any w B nf bx M X (N+12) 4 (h.b12.cell 0) (fun e=>by have:=sep _ e;omega) J hm hn (by omega)
include h J hm hn sep in
theorem at_9 (ho:X.op=9):vu w N 9 B nf bx M X:=by
 refine ⟨113,#[π (some ⟨N+13,0,none⟩)],(h.list.cell _).trans rfl,(h.list.cell _).trans rfl,enters_of Tryz.func113 (by kernel_rfl) rfl,fun hG=>?_⟩
 unfold ji
 rw[ho]
 exact load1_any w B nf bx M X (N+13) 1 (h.b13.cell 0) (fun e=>by have:=sep _ e;omega) J hm hn (by omega)
include h J hm hn sep in
theorem at_10 (ho:X.op=10):vu w N 10 B nf bx M X:=by
 refine ⟨115,#[π (some ⟨N+14,0,none⟩)],(h.list.cell _).trans rfl,(h.list.cell _).trans rfl,enters_of Tryz.func115 (by kernel_rfl) rfl,fun hG=>?_⟩
 unfold ji
 rw[ho]
 exact store1_any w B nf bx M X (N+14) 1 (h.b14.cell 0) (fun e=>by have:=sep _ e;omega) J hm hn (by omega)
include h J in
theorem at_11 (ho:X.op=11):vu w N 11 B nf bx M X:=by
 refine ⟨109,#[π (some ⟨N+16,0,none⟩)],(h.list.cell _).trans rfl,(h.list.cell _).trans rfl,enters_of Tryz.func109 (by kernel_rfl) rfl,fun hG=>?_⟩
 unfold ji
 rw[ho]
 exact d9 w B nf bx M _ X _ (N+16) 117 #[π (some ⟨N+15,0,none⟩)] (h.b16.cell 0) (enters_of Tryz.func117 (by kernel_rfl) rfl) J (fun w1 f1 J1=>so w1 B nf bx M X (N+15) 69 (fun a b=>decide (a=b)) ((h.keep f1 (fun _ _ _ h=>h)).b15.cell 0) (enters_of Tryz.func69 (by kernel_rfl) rfl) (fun a b w=>op6_any a b w) J1)
include h J in
theorem at_12 (ho:X.op=12):vu w N 12 B nf bx M X:=by
 refine ⟨109,#[π (some ⟨N+18,0,none⟩)],(h.list.cell _).trans rfl,(h.list.cell _).trans rfl,enters_of Tryz.func109 (by kernel_rfl) rfl,fun hG=>?_⟩
 unfold ji
 rw[ho]
 exact d9 w B nf bx M _ X _ (N+18) 117 #[π (some ⟨N+17,0,none⟩)] (h.b18.cell 0) (enters_of Tryz.func117 (by kernel_rfl) rfl) J (fun w1 f1 J1=>so w1 B nf bx M X (N+17) 70 (fun a b=>!decide (a=b)) ((h.keep f1 (fun _ _ _ h=>h)).b17.cell 0) (enters_of Tryz.func70 (by kernel_rfl) rfl) (fun a b w=>op7_any a b w) J1)
include h J in
theorem at_13 (ho:X.op=13):vu w N 13 B nf bx M X:=by
 refine ⟨109,#[π (some ⟨N+20,0,none⟩)],(h.list.cell _).trans rfl,(h.list.cell _).trans rfl,enters_of Tryz.func109 (by kernel_rfl) rfl,fun hG=>?_⟩
 unfold ji
 rw[ho]
 exact d9 w B nf bx M _ X _ (N+20) 117 #[π (some ⟨N+19,0,none⟩)] (h.b20.cell 0) (enters_of Tryz.func117 (by kernel_rfl) rfl) J (fun w1 f1 J1=>so w1 B nf bx M X (N+19) 71 (fun a b=>decide (a<b)) ((h.keep f1 (fun _ _ _ h=>h)).b19.cell 0) (enters_of Tryz.func71 (by kernel_rfl) rfl) (fun a b w=>op8_any a b w) J1)
include h J in
theorem at_14 (ho:X.op=14):vu w N 14 B nf bx M X:=by
 refine ⟨109,#[π (some ⟨N+21,0,none⟩)],(h.list.cell _).trans rfl,(h.list.cell _).trans rfl,enters_of Tryz.func109 (by kernel_rfl) rfl,fun hG=>?_⟩
 unfold ji
 rw[ho]
 exact d9 w B nf bx M _ X _ (N+21) 72 #[] (h.b21.cell 0) (enters_of Tryz.func72 (by kernel_rfl) rfl) J (fun w1 f1 J1=>jump_any w1 B nf bx M X J1)
include h J in
theorem at_15 (ho:X.op=15):vu w N 15 B nf bx M X:=by
 refine ⟨109,#[π (some ⟨N+22,0,none⟩)],(h.list.cell _).trans rfl,(h.list.cell _).trans rfl,enters_of Tryz.func109 (by kernel_rfl) rfl,fun hG=>?_⟩
 unfold ji
 rw[ho]
 exact d9 w B nf bx M _ X _ (N+22) 73 #[] (h.b22.cell 0) (enters_of Tryz.func73 (by kernel_rfl) rfl) J (fun w1 f1 J1=>link_any w1 B nf bx M X J1)
include h J in
theorem at_16 (ho:X.op=16):vu w N 16 B nf bx M X:=by
 refine ⟨109,#[π (some ⟨N+23,0,none⟩)],(h.list.cell _).trans rfl,(h.list.cell _).trans rfl,enters_of Tryz.func109 (by kernel_rfl) rfl,fun hG=>?_⟩
 unfold ji
 rw[ho]
 exact d9 w B nf bx M _ X _ (N+23) 74 #[] (h.b23.cell 0) (enters_of Tryz.func74 (by kernel_rfl) rfl) J (fun w1 f1 J1=>turn_any w1 B nf bx M X J1)
include h J in
theorem at_17 (ho:X.op=17):vu w N 17 B nf bx M X:=by
 refine ⟨118,#[π (some ⟨N+24,0,none⟩)],(h.list.cell _).trans rfl,(h.list.cell _).trans rfl,enters_of Tryz.func118 (by kernel_rfl) rfl,fun hG=>?_⟩
 unfold ji
 rw[ho]
 exact call1_any w B nf bx M X (N+24) 5 (h.b24.cell 0) J
include h J in
theorem at_18 (ho:X.op=18):vu w N 18 B nf bx M X:=by
 refine ⟨118,#[π (some ⟨N+25,0,none⟩)],(h.list.cell _).trans rfl,(h.list.cell _).trans rfl,enters_of Tryz.func118 (by kernel_rfl) rfl,fun hG=>?_⟩
 unfold ji
 rw[ho]
 exact call1_any w B nf bx M X (N+25) 6 (h.b25.cell 0) J
include h J in
theorem at_19 (ho:X.op=19):vu w N 19 B nf bx M X:=by
 refine ⟨76,#[],(h.list.cell _).trans rfl,(h.list.cell _).trans rfl,enters_of Tryz.func76 (by kernel_rfl) rfl,fun hG=>?_⟩
 unfold ji
 rw[ho]
 exact rsys_any w B nf bx M X J
include h J in
theorem at_20 (ho:X.op=20):vu w N 20 B nf bx M X:=by
 refine ⟨77,#[],(h.list.cell _).trans rfl,(h.list.cell _).trans rfl,enters_of Tryz.func77 (by kernel_rfl) rfl,fun hG=>?_⟩
 unfold ji
 rw[ho]
 obtain ⟨b,S,hb,hV⟩:=hG rfl
 have hS:M.S=S:=by unfold Mc.S;rw[hV];rfl
 show Calls pQ _ #[π (some ⟨bx,0,none⟩)] w (Don w B nf bx (wrM M M.S X) (wrX X) (wrT X))
 rw[hS]
 unfold wrM wrX wrT
 by_cases hi:(5:Int)<(X.imm:Int)
 ·rw[if_pos hi,if_pos hi,if_pos hi];exact wsys_bad w B nf bx M X J hi
 ·rw[if_neg hi,if_neg hi,if_neg hi];exact wsys_ok w B nf bx M X J hb hV hi
include h J in
theorem at_21 (ho:X.op=21):vu w N 21 B nf bx M X:=by
 refine ⟨78,#[],(h.list.cell _).trans rfl,(h.list.cell _).trans rfl,enters_of Tryz.func78 (by kernel_rfl) rfl,fun hG=>?_⟩
 unfold ji
 rw[ho]
 show Calls pQ _ #[π (some ⟨bx,0,none⟩)] w (Don w B nf bx M X (wfT M X))
 unfold wfT
 have hv:=J.m.vg
 cases hb:B.v with
 | none =>
  rw[hb] at hv
  cases hV:M.V with
  | none=>exact wait_none w B nf bx M X J hb
  | some S=>rw[hV] at hv;exact hv.elim
 | some b =>
  rw[hb] at hv
  cases hV:M.V with
  | none=>rw[hV] at hv;exact hv.elim
  | some S=>exact wait_some w B nf bx M X J hb hV
include h J in
theorem at_22 (ho:X.op=22):vu w N 22 B nf bx M X:=by
 refine ⟨109,#[π (some ⟨N+26,0,none⟩)],(h.list.cell _).trans rfl,(h.list.cell _).trans rfl,enters_of Tryz.func109 (by kernel_rfl) rfl,fun hG=>?_⟩
 unfold ji
 rw[ho]
 obtain ⟨b,S,hb,hV⟩:=hG rfl
 have hS:M.S=S:=by unfold Mc.S;rw[hV];rfl
 rw[hS]
 exact d9 w B nf bx M _ X _ (N+26) 79 #[] (h.b26.cell 0) (enters_of Tryz.func79 (by kernel_rfl) rfl) J (fun w1 f1 J1=>ackn_any w1 B nf bx M X J1 hb hV)
include h J in
theorem at_23 (ho:X.op=23):vu w N 23 B nf bx M X:=by
 refine ⟨80,#[],(h.list.cell _).trans rfl,(h.list.cell _).trans rfl,enters_of Tryz.func80 (by kernel_rfl) rfl,fun hG=>?_⟩
 unfold ji
 rw[ho]
 obtain ⟨b,S,hb,hV⟩:=hG rfl
 have hS:M.S=S:=by unfold Mc.S;rw[hV];rfl
 rw[hS]
 exact wend_any w B nf bx M X J hb hV
include h J in
theorem at_24 (ho:X.op=24):vu w N 24 B nf bx M X:=by
 refine ⟨109,#[π (some ⟨N+27,0,none⟩)],(h.list.cell _).trans rfl,(h.list.cell _).trans rfl,enters_of Tryz.func109 (by kernel_rfl) rfl,fun hG=>?_⟩
 unfold ji
 rw[ho]
 exact d9 w B nf bx M _ X _ (N+27) 81 #[] (h.b27.cell 0) (enters_of Tryz.func81 (by kernel_rfl) rfl) J (fun w1 f1 J1=>forget1_any w1 B nf bx M X J1)
include h J in
theorem at_25 (ho:X.op=25):vu w N 25 B nf bx M X:=by
 refine ⟨109,#[π (some ⟨N+28,0,none⟩)],(h.list.cell _).trans rfl,(h.list.cell _).trans rfl,enters_of Tryz.func109 (by kernel_rfl) rfl,fun hG=>?_⟩
 unfold ji
 rw[ho]
 exact d9 w B nf bx M _ X _ (N+28) 82 #[] (h.b28.cell 0) (enters_of Tryz.func82 (by kernel_rfl) rfl) J (fun w1 f1 J1=>nothing_any w1 B nf bx M X J1)
end
theorem op_all (w:World) (N:Nat) (B:Bm) (nf bx:Nat) (M:Mc) (X:Wk) (h:Ops w N) (J:Jb w B nf bx M X) {n:Nat} (hm:M.few n) (hn:n<999990) (sep:∀ k,B.y bx k→k<N∨N+30≤k) (h1:1≤X.op) (h2:X.op≤25):vu w N X.op B nf bx M X:=by
 obtain ⟨k,hk⟩:∃ k,X.op=k:=⟨_,rfl⟩
 rw[hk] at h1 h2 ⊢
 have:k=1∨k=2∨k=3∨k=4∨k=5∨k=6∨k=7∨k=8∨k=9∨k=10∨k=11∨k=12∨k=13∨k=14∨k=15∨k=16∨k=17∨k=18∨k=19∨k=20∨k=21∨k=22∨k=23∨k=24∨k=25:=by omega
 rcases this with rfl | rfl | rfl | rfl | rfl | rfl | rfl | rfl | rfl | rfl | rfl | rfl | rfl | rfl | rfl | rfl | rfl | rfl | rfl | rfl | rfl | rfl | rfl | rfl | rfl
 ·exact at_1 w N B nf bx M X h J hk
 ·exact at_2 w N B nf bx M X h J hk
 ·exact at_3 w N B nf bx M X h J hk
 ·exact at_4 w N B nf bx M X h J hk
 ·exact at_5 w N B nf bx M X h J hk
 ·exact at_6 w N B nf bx M X h J hk
 ·exact at_7 w N B nf bx M X h J hm hn sep hk
 ·exact at_8 w N B nf bx M X h J hm hn sep hk
 ·exact at_9 w N B nf bx M X h J hm hn sep hk
 ·exact at_10 w N B nf bx M X h J hm hn sep hk
 ·exact at_11 w N B nf bx M X h J hk
 ·exact at_12 w N B nf bx M X h J hk
 ·exact at_13 w N B nf bx M X h J hk
 ·exact at_14 w N B nf bx M X h J hk
 ·exact at_15 w N B nf bx M X h J hk
 ·exact at_16 w N B nf bx M X h J hk
 ·exact at_17 w N B nf bx M X h J hk
 ·exact at_18 w N B nf bx M X h J hk
 ·exact at_19 w N B nf bx M X h J hk
 ·exact at_20 w N B nf bx M X h J hk
 ·exact at_21 w N B nf bx M X h J hk
 ·exact at_22 w N B nf bx M X h J hk
 ·exact at_23 w N B nf bx M X h J hk
 ·exact at_24 w N B nf bx M X h J hk
 ·exact at_25 w N B nf bx M X h J hk
end
end Go.Proofs.YtibhbjbpodlpiaaGreat
