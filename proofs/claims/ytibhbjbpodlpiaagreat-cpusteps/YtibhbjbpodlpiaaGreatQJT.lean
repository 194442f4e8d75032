/-
  Contracts over the translation. No statement is proved here.
-/
import Derived.Test.YtibhbjbpodlpiaaGreatQJP
set_option maxRecDepth 100000
set_option maxHeartbeats 8000000
namespace Go.Proofs.YtibhbjbpodlpiaaGreat
open Go.RowKit
open Go.Value renaming int → U, bool → β, pointer → π, tuple → τ
open Go.IntKind renaming i64 → κ, u32 → μ
open Go.Obj renaming cells → ω
open Go.Ending renaming returned → ρ
open Go.Proofs.Tryz renaming prog → pQ
theorem cpL_set {c c':Cp} {k:Nat} {v:Value} (h1:∀ i,i<16→((cpL c).set k v)[i]? = some (U μ ((c'.r i:Nat):Int))) (h2:((cpL c).set k v)[16]? = some (U κ c'.pc)) (h3:∀ i,i<8→((cpL c).set k v)[17+i]? = some (U μ ((c'.s i:Nat):Int))):(cpA c).setIfInBounds k v=cpA c':=by
 unfold cpA
 rw[List.setIfInBounds_toArray]
 rw[cpL_ext (c:=c') (by simp[p8]) h1 h2 h3]
theorem cpA_setP (c:Cp) (x:Int):(cpA c).setIfInBounds 16 (U κ x)=cpA (c.setP x):=
 cpL_set (fun i hi=>by rw[List.getElem?_set_ne (by omega),cpL_r c hi];rfl) (by rw[List.getElem?_set_self (by rw[p8];omega)];rfl) (fun i hi=>by rw[List.getElem?_set_ne (by omega),yo c hi];rfl)
theorem cpA_setR (c:Cp) {k:Nat} (hk:k<16) (v:Nat):(cpA c).setIfInBounds k (U μ (v:Int))=cpA (c.setR k v):=
 cpL_set (fun i hi=>by
  by_cases e:k=i
  ·subst e;rw[List.getElem?_set_self (by rw[p8];omega)];simp[Cp.setR]
  ·rw[List.getElem?_set_ne e,cpL_r c hi];simp[Cp.setR,show ¬ i=k from fun h=>e h.symm]) (by rw[List.getElem?_set_ne (by omega),vq];rfl) (fun i hi=>by rw[List.getElem?_set_ne (by omega),yo c hi];rfl)
theorem cpA_setS (c:Cp) {k:Nat} (hk:k<8) (v:Nat):(cpA c).setIfInBounds (17+k) (U μ (v:Int))=cpA (c.setS k v):=
 cpL_set (fun i hi=>by rw[List.getElem?_set_ne (by omega),cpL_r c hi];rfl) (by rw[List.getElem?_set_ne (by omega),vq];rfl) (fun i hi=>by
  by_cases e:k=i
  ·subst e;rw[List.getElem?_set_self (by rw[p8];omega)];simp[Cp.setS]
  ·rw[List.getElem?_set_ne (by omega),yo c hi];simp[Cp.setS,show ¬ i=k from fun h=>e h.symm])
theorem m6 {fn:Func} {p:Tmp} {tmps:Array Value} {g:Nat} {cs:Array Value} {w:World} (h:fn.results=#[.cell p 30]) (hp:tmps.getD p undef=π (some ⟨g,0,none⟩)) (hr:Row w g cs 30) (hs:cs.size=25) :
  (results fn tmps).run pQ w=.ok (.agg cs) w:=
 results_cell_row h tmps w g _ cs (0,0) _ hp hr Tryz.underlying30 rfl (by rw[hs];exact kz)
def zcL:Array Value:=#[U μ 0,U μ 0,U μ 0,U μ 0,U μ 0,U μ 0,U μ 0,U μ 0,U μ 0,U μ 0,U μ 0,U μ 0,U μ 0,U μ 0,U μ 0,U μ 0,U κ 0,U μ 0,U μ 0,U μ 0,U μ 0,U μ 0,U μ 0,U μ 0,U μ 0]
theorem cq {w:World} {g:Nat} {A:Array Value} {t:TypeId} (h:Row w g A t):∀ j v,A[j]? = some v→w.cell? ⟨g,j,none⟩=some v:=fun j _ hv=>(h.cell j).trans hv
theorem Row.setP {w:World} {g:Nat} {c:Cp} {t:TypeId} (h:Row w g (cpA c) t) (x:Int):Row (w.setCell ⟨g,16,none⟩ (U κ x)) g (cpA (c.setP x)) t:=by
 have:=h.setCell 16 (U κ x)
 rwa [cpA_setP] at this
theorem Row.pc {w:World} {g:Nat} {c:Cp} {t:TypeId} (h:Row w g (cpA c) t):w.cell? ⟨g,16,none⟩=some (U κ c.pc):=by rw[h.cell,ly];exact vq c
theorem Row.rg {w:World} {g:Nat} {c:Cp} {t:TypeId} (h:Row w g (cpA c) t) {i:Nat} (hi:i<16):w.cell? ⟨g,i,none⟩=some (U μ ((c.r i:Nat):Int)):=by rw[h.cell,ly];exact cpL_r c hi
theorem Row.sy {w:World} {g:Nat} {c:Cp} {t:TypeId} (h:Row w g (cpA c) t) {i:Nat} (hi:i<8):w.cell? ⟨g,17+i,none⟩=some (U μ ((c.s i:Nat):Int)):=by rw[h.cell,ly];exact yo c hi
theorem cn (w:World) (c:Cp) (x:Int) (hx:0≤x∧x<1000000):Calls pQ 34 #[.agg (cpA c),U κ x] w fun e w'=>e=ρ (.agg (cpA (c.setP (x%65536))))∧Fr bg w w':=by
 have p0:Row ((w.alloc (ω (cpA c) 30)).alloc (ω #[U μ 0,U μ 0,U μ 0,U μ 0,U μ 0,U μ 0,U μ 0,U μ 0,U μ 0,U μ 0,U μ 0,U μ 0,U μ 0,U μ 0,U μ 0,U μ 0,U κ 0,U μ 0,U μ 0,U μ 0,U μ 0,U μ 0,U μ 0,U μ 0,U μ 0] 30)) w.heap.size (cpA c) 30:=(ba w (cpA c) 30).alloc _
 have p1:Row ((w.alloc (ω (cpA c) 30)).alloc (ω #[U μ 0,U μ 0,U μ 0,U μ 0,U μ 0,U μ 0,U μ 0,U μ 0,U μ 0,U μ 0,U μ 0,U μ 0,U μ 0,U μ 0,U μ 0,U μ 0,U κ 0,U μ 0,U μ 0,U μ 0,U μ 0,U μ 0,U μ 0,U μ 0,U μ 0] 30)) (w.heap.size+1) #[U μ 0,U μ 0,U μ 0,U μ 0,U μ 0,U μ 0,U μ 0,U μ 0,U μ 0,U μ 0,U μ 0,U μ 0,U μ 0,U μ 0,U μ 0,U μ 0,U κ 0,U μ 0,U μ 0,U μ 0,U μ 0,U μ 0,U μ 0,U μ 0,U μ 0] 30:=dq (by simp)
 have f0:=((Fr.refl bg w).alloc (ω (cpA c) 30)).alloc (ω #[U μ 0,U μ 0,U μ 0,U μ 0,U μ 0,U μ 0,U μ 0,U μ 0,U μ 0,U μ 0,U μ 0,U μ 0,U μ 0,U μ 0,U μ 0,U μ 0,U κ 0,U μ 0,U μ 0,U μ 0,U μ 0,U μ 0,U μ 0,U μ 0,U μ 0] 30)
 obtain ⟨v0,hv0⟩:∃ v0,v0=((w.alloc (ω (cpA c) 30)).alloc (ω #[U μ 0,U μ 0,U μ 0,U μ 0,U μ 0,U μ 0,U μ 0,U μ 0,U μ 0,U μ 0,U μ 0,U μ 0,U μ 0,U μ 0,U μ 0,U μ 0,U κ 0,U μ 0,U μ 0,U μ 0,U μ 0,U μ 0,U μ 0,U μ 0,U μ 0] 30)):=⟨_,rfl⟩
 rw[←hv0] at p0 p1 f0
 have hs:=bj c
 have h1:=bw c
 go_enter Tryz.func34,Tryz.ntmps34
 go_upto_region 1 with fail
 rw[←hv0]
 obtain ⟨g0,hg0⟩:∃ g,g=w.heap.size:=⟨_,rfl⟩
 obtain ⟨g1,hg1⟩:∃ g,g=w.heap.size+1:=⟨_,rfl⟩
 rw[←hg1] at p1 ⊢
 rw[←hg0] at p0 ⊢
 have q0:=p0.setP (x%65536)
 have q1:Row (v0.setCell ⟨g0,16,none⟩ (U κ (x%65536))) g1 #[U μ 0,U μ 0,U μ 0,U μ 0,U μ 0,U μ 0,U μ 0,U μ 0,U μ 0,U μ 0,U μ 0,U μ 0,U μ 0,U μ 0,U μ 0,U μ 0,U κ 0,U μ 0,U μ 0,U μ 0,U μ 0,U μ 0,U μ 0,U μ 0,U μ 0] 30:=p1.keep (cy _ g0 16 _ (Fr.refl _ _)) (fun e=>by have e':g1=g0:=e;omega)
 have q2:=q1.setRow (A:=cpA (c.setP (x%65536)))
 have y1:=p0.pc
 have y2:=p0.frozen 16
 have HF:Hid (Fr bg w ((v0.setCell ⟨g0,16,none⟩ (U κ (x%65536))).setRow g1 (cpA (c.setP (x%65536))))):=(f0.newer (cy _ g0 16 _ (Fr.refl _ _)) (by omega)).newer (bb _ g1 _) (by omega)
 clear hv0 p0 p1 f0 hg0 hg1
 go_wp2_with (first | refine bh rfl 30 _ rfl g0 rfl (cpA (c.setP (x%65536))) _ (cq q0) Tryz.underlying30 rfl (bk _) ?_ | refine wpList_store_row rfl 30 _ _ rfl g1 (cpA (c.setP (x%65536))) rfl rfl 30 #[U μ 0,U μ 0,U μ 0,U μ 0,U μ 0,U μ 0,U μ 0,U μ 0,U μ 0,U μ 0,U μ 0,U μ 0,U μ 0,U μ 0,U μ 0,U μ 0,U κ 0,U μ 0,U μ 0,U μ 0,U μ 0,U μ 0,U μ 0,U μ 0,U μ 0] q1 (bk _) (bj _).symm (bw _) ?_)
 refine bodyPost_ret (m6 rfl rfl q2 (bj _)) rfl ?_
 exact ⟨rfl,HF.out⟩
theorem mv (w:World) (k:Nat):Calls pQ 32 #[U κ (k:Int)] w fun e w'=>e=ρ (β (isG k))∧w'=w:=by
 have key:∀ b:Bool,isG k=b→Calls pQ 32 #[U κ (k:Int)] w fun e w'=>e=ρ (β b)∧w'=w:=fun b hb=>by
  unfold isG at hb
  by_cases h1:k=17
  ·subst h1
   obtain rfl:true=b:=hb
   go_enter Tryz.func32,Tryz.ntmps32
   go_wp2_with fail
   go_ret
   exact ⟨rfl,rfl⟩
  by_cases h2:k=19
  ·subst h2
   obtain rfl:true=b:=hb
   go_enter Tryz.func32,Tryz.ntmps32
   go_wp2_with fail
   go_ret
   exact ⟨rfl,rfl⟩
  by_cases h3:k=20
  ·subst h3
   obtain rfl:true=b:=hb
   go_enter Tryz.func32,Tryz.ntmps32
   go_wp2_with fail
   go_ret
   exact ⟨rfl,rfl⟩
  by_cases h4:k=22
  ·subst h4
   obtain rfl:true=b:=hb
   go_enter Tryz.func32,Tryz.ntmps32
   go_wp2_with fail
   go_ret
   exact ⟨rfl,rfl⟩
  by_cases h5:k=23
  ·subst h5
   obtain rfl:true=b:=hb
   go_enter Tryz.func32,Tryz.ntmps32
   go_wp2_with fail
   go_ret
   exact ⟨rfl,rfl⟩
  by_cases h6:k=24
  ·subst h6
   obtain rfl:true=b:=hb
   go_enter Tryz.func32,Tryz.ntmps32
   go_wp2_with fail
   go_ret
   exact ⟨rfl,rfl⟩
  obtain rfl:false=b:=by rw[←hb];simp[h1,h2,h3,h4,h5,h6]
  have q1:((k:Int) == 17)=false:=by simp;omega
  have q2:((k:Int) == 19)=false:=by simp;omega
  have q3:((k:Int) == 20)=false:=by simp;omega
  have q4:((k:Int) == 22)=false:=by simp;omega
  have q5:((k:Int) == 23)=false:=by simp;omega
  have q6:((k:Int) == 24)=false:=by simp;omega
  go_enter Tryz.func32,Tryz.ntmps32
  go_wp2_with fail
  go_ret
  exact ⟨rfl,rfl⟩
 exact key _ rfl
theorem ku (w:World) (p t:Nat) (v:Option Nat) (c:Cp) (hc:c.Ok) (vm se:Int) :
  Calls pQ 15 #[.agg #[π (some ⟨p,0,none⟩),π (some ⟨t,0,none⟩),gu v],.agg (cpA c),U κ vm,U κ se] w fun e w'=>e=ρ (.agg #[U κ vm,U κ (spA v.isSome c),U κ (spF v.isSome c),U κ se])∧Fr bg w w':=by
 obtain ⟨A,hA⟩:∃ A,cpA c=A:=⟨_,rfl⟩
 have hs:=bj c
 have h1:=bw c
 have g0:(cpA c)[17]? = some (U μ ((c.s 0:Nat):Int)):=by rw[ly];exact yo c (i:=0) (by omega)
 have g1:(cpA c)[18]? = some (U μ ((c.s 1:Nat):Int)):=by rw[ly];exact yo c (i:=1) (by omega)
 rw[hA] at hs h1 g0 g1 ⊢
 clear hA
 have q0:A[17]'(by omega)=U μ ((c.s 0:Nat):Int):=(Array.getElem?_eq_some_iff.1 g0).2
 have q1:A[18]'(by omega)=U μ ((c.s 1:Nat):Int):=(Array.getElem?_eq_some_iff.1 g1).2
 clear g0 g1
 have o0:=hc.s 0
 have o1:=hc.s 1
 unfold spA spF
 clear hc
 cases v with
 | none =>
  rw[if_neg (by simp),if_neg (by simp)]
  unfold gu
  go_enter Tryz.func15,Tryz.ntmps15
  go_wp2_with fail
  refine bodyPost_ret (na rfl rfl ((dq (by simp)).alloc _) rfl) rfl ?_
  exact ⟨rfl,((((Fr.refl _ w).alloc _).alloc _).alloc _).alloc _⟩
 | some b =>
  unfold gu
  by_cases hq:2147483648≤c.s 0
  ·rw[if_pos ⟨rfl,hq⟩,if_pos ⟨rfl,hq⟩]
   have b1:decide (2147483648≤((c.s 0:Nat):Int))=true:=decide_eq_true (by omega)
   generalize c.s 0=s0 at *
   generalize c.s 1=s1 at *
   have b2:IntKind.i64.wrap ((s0:Int)%1024)=((s0%1024:Nat):Int):=by rw[IntKind.wrap_i64];omega
   have b3:IntKind.i64.wrap ((s1:Int)%16)=((s1%16:Nat):Int):=by rw[IntKind.wrap_i64];omega
   clear hq
   go_enter Tryz.func15,Tryz.ntmps15
   go_wp2_with fail
   refine bodyPost_ret (na rfl rfl ((dq (by simp)).alloc _) rfl) rfl ?_
   exact ⟨by first | rfl | simp,((((Fr.refl _ w).alloc _).alloc _).alloc _).alloc _⟩
  ·rw[if_neg (fun h=>hq h.2),if_neg (fun h=>hq h.2)]
   have b1:decide (2147483648≤((c.s 0:Nat):Int))=false:=decide_eq_false (by omega)
   clear hq
   go_enter Tryz.func15,Tryz.ntmps15
   go_wp2_with fail
   refine bodyPost_ret (na rfl rfl ((dq (by simp)).alloc _) rfl) rfl ?_
   exact ⟨rfl,((((Fr.refl _ w).alloc _).alloc _).alloc _).alloc _⟩
def rkD (o i x y:Nat):Nat:=if o=1 then i else if o=2 then gAdd x y else if o=3 then gSub x y else if o=4 then gAnd x y else if o=5 then gXor x y else gShl x y
theorem rreck_1 (w:World) (a b c i x y:Nat) (hi:i<65536) (_hx:x<4294967296) (_hy:y<4294967296) :
  Calls pQ 33 #[.agg #[U κ 1,U κ (a:Int),U κ (b:Int),U κ (c:Int),U κ (i:Int)],U μ (x:Int),U μ (y:Int)] w fun e w'=>e=ρ (U μ ((i:Nat):Int))∧Fr bg w w':=by
 have fa:=(Fr.refl bg w).alloc (ω #[U κ 1,U κ (a:Int),U κ (b:Int),U κ (c:Int),U κ (i:Int)] 69)
 have HF:Hid _:=fa
 clear fa
 go_enter Tryz.func33,Tryz.ntmps33
 go_wp2_with fail
 go_ret
 exact ⟨tx (by show _=((i:Nat):Int);omega),HF.out⟩
theorem rreck_2 (w:World) (a b c i x y:Nat) (_hi:i<65536) (_hx:x<4294967296) (_hy:y<4294967296) :
  Calls pQ 33 #[.agg #[U κ 2,U κ (a:Int),U κ (b:Int),U κ (c:Int),U κ (i:Int)],U μ (x:Int),U μ (y:Int)] w fun e w'=>e=ρ (U μ ((gAdd x y:Nat):Int))∧Fr bg w w':=by
 have fa:=(Fr.refl bg w).alloc (ω #[U κ 2,U κ (a:Int),U κ (b:Int),U κ (c:Int),U κ (i:Int)] 69)
 have HF:Hid _:=fa
 clear fa
 go_enter Tryz.func33,Tryz.ntmps33
 go_wp2_with fail
 go_ret
 exact ⟨tx (by show _=((gAdd x y:Nat):Int);unfold gAdd;omega),HF.out⟩
theorem rreck_3 (w:World) (a b c i x y:Nat) (_hi:i<65536) (hx:x<4294967296) (hy:y<4294967296) :
  Calls pQ 33 #[.agg #[U κ 3,U κ (a:Int),U κ (b:Int),U κ (c:Int),U κ (i:Int)],U μ (x:Int),U μ (y:Int)] w fun e w'=>e=ρ (U μ ((gSub x y:Nat):Int))∧Fr bg w w':=by
 have fa:=(Fr.refl bg w).alloc (ω #[U κ 3,U κ (a:Int),U κ (b:Int),U κ (c:Int),U κ (i:Int)] 69)
 have HF:Hid _:=fa
 clear fa
 go_enter Tryz.func33,Tryz.ntmps33
 go_wp2_with fail
 go_ret
 exact ⟨tx (by show _=((gSub x y:Nat):Int);unfold gSub;omega),HF.out⟩
theorem rreck_4 (w:World) (a b c i x y:Nat) (_hi:i<65536) (hx:x<4294967296) (hy:y<4294967296) :
  Calls pQ 33 #[.agg #[U κ 4,U κ (a:Int),U κ (b:Int),U κ (c:Int),U κ (i:Int)],U μ (x:Int),U μ (y:Int)] w fun e w'=>e=ρ (U μ ((gAnd x y:Nat):Int))∧Fr bg w w':=by
 have fa:=(Fr.refl bg w).alloc (ω #[U κ 4,U κ (a:Int),U κ (b:Int),U κ (c:Int),U κ (i:Int)] 69)
 have HF:Hid _:=fa
 clear fa
 have e1:=u32_and_nat x y hx hy
 go_enter Tryz.func33,Tryz.ntmps33
 go_wp2_with fail
 go_ret
 exact ⟨rfl,HF.out⟩
theorem rreck_5 (w:World) (a b c i x y:Nat) (_hi:i<65536) (hx:x<4294967296) (hy:y<4294967296) :
  Calls pQ 33 #[.agg #[U κ 5,U κ (a:Int),U κ (b:Int),U κ (c:Int),U κ (i:Int)],U μ (x:Int),U μ (y:Int)] w fun e w'=>e=ρ (U μ ((gXor x y:Nat):Int))∧Fr bg w w':=by
 have fa:=(Fr.refl bg w).alloc (ω #[U κ 5,U κ (a:Int),U κ (b:Int),U κ (c:Int),U κ (i:Int)] 69)
 have HF:Hid _:=fa
 clear fa
 have e1:=u32_xor_nat x y hx hy
 go_enter Tryz.func33,Tryz.ntmps33
 go_wp2_with fail
 go_ret
 exact ⟨rfl,HF.out⟩
theorem rreck_6 (w:World) (a b c i x y:Nat) (_hi:i<65536) (hx:x<4294967296) (hy:y<4294967296) :
  Calls pQ 33 #[.agg #[U κ 6,U κ (a:Int),U κ (b:Int),U κ (c:Int),U κ (i:Int)],U μ (x:Int),U μ (y:Int)] w fun e w'=>e=ρ (U μ ((gShl x y:Nat):Int))∧Fr bg w w':=by
 have fa:=(Fr.refl bg w).alloc (ω #[U κ 6,U κ (a:Int),U κ (b:Int),U κ (c:Int),U κ (i:Int)] 69)
 have HF:Hid _:=fa
 clear fa
 have hm:((y:Int)%32)=((y%32:Nat):Int):=by omega
 obtain ⟨m,hmm⟩:∃ m,m=y%32:=⟨_,rfl⟩
 have HM:Hid _:=hmm
 have hm32:m<32:=by omega
 rw[←hmm] at hm
 clear hmm
 go_enter Tryz.func33,Tryz.ntmps33
 go_wp2_with fail
 go_loopw [1,7] (fun a b wr=>∃ k v:Nat,k≤m∧v<4294967296∧a=U μ (v:Int)∧b=U μ (k:Int)∧Hid (v=x*2 ^ k%4294967296∧Fr bg w wr)) (fun _ b _=>m-(intOf b).toNat)
 case atStart=>exact ⟨0,x,by omega,hx,rfl,rfl,by rw[Nat.pow_zero,Nat.mul_one,Nat.mod_eq_of_lt hx],HF.out⟩
 case round =>
  clear HF
  obtain ⟨k,v,hk,hv,rfl,rfl,HI⟩:=hrel
  by_cases hkm:k<m
  ·have u1:decide ((k:Int)<(m:Int))=true:=decide_eq_true (by omega)
   have u2:decide (k<m)=true:=decide_eq_true hkm
   have HN:Hid _:=(show 2*v%4294967296=x*2 ^ (k+1)%4294967296 by
    rw[HI.out.1,Nat.pow_succ,←Nat.mul_assoc,Nat.mul_comm 2,Nat.mod_mul_mod])
   go_wp2_with fail
   go_roundw
   case rel=>exact ⟨k+1,2*v%4294967296,by omega,by omega,by first | rfl | (congr 1;omega),by go_num,HN.out,HI.out.2⟩
   case measure=>simp[intOf];omega
  ·have u1:decide ((k:Int)<(m:Int))=false:=decide_eq_false (by omega)
   have u2:decide (k<m)=false:=decide_eq_false hkm
   have HV:Hid _:=(show(v:Int)=((gShl x y:Nat):Int) by
    have e:k=m:=by omega
    rw[HI.out.1,e,HM.out]
    rfl)
   go_wp2_with fail
   go_ret
   exact ⟨tx HV.out,HI.out.2⟩
theorem rkD_1 (i x y:Nat):rkD 1 i x y=i:=by simp[rkD]
theorem rkD_2 (i x y:Nat):rkD 2 i x y=gAdd x y:=by simp[rkD]
theorem rkD_3 (i x y:Nat):rkD 3 i x y=gSub x y:=by simp[rkD]
theorem rkD_4 (i x y:Nat):rkD 4 i x y=gAnd x y:=by simp[rkD]
theorem rkD_5 (i x y:Nat):rkD 5 i x y=gXor x y:=by simp[rkD]
theorem rkD_6 (i x y:Nat):rkD 6 i x y=gShl x y:=by simp[rkD]
theorem rreck_any (w:World) (o a b c i x y:Nat) (ho:1≤o∧o≤6) (hi:i<65536) (hx:x<4294967296) (hy:y<4294967296) :
  Calls pQ 33 #[.agg #[U κ (o:Int),U κ (a:Int),U κ (b:Int),U κ (c:Int),U κ (i:Int)],U μ (x:Int),U μ (y:Int)] w fun e w'=>e=ρ (U μ ((rkD o i x y:Nat):Int))∧Fr bg w w':=by
 have h:o=1∨o=2∨o=3∨o=4∨o=5∨o=6:=by omega
 rcases h with rfl | rfl | rfl | rfl | rfl | rfl
 ·rw[rkD_1];exact rreck_1 w a b c i x y hi hx hy
 ·rw[rkD_2];exact rreck_2 w a b c i x y hi hx hy
 ·rw[rkD_3];exact rreck_3 w a b c i x y hi hx hy
 ·rw[rkD_4];exact rreck_4 w a b c i x y hi hx hy
 ·rw[rkD_5];exact rreck_5 w a b c i x y hi hx hy
 ·rw[rkD_6];exact rreck_6 w a b c i x y hi hx hy
theorem Row.setRg {w:World} {g:Nat} {c:Cp} {t:TypeId} (h:Row w g (cpA c) t) {i:Nat} (hi:i<16) (v:Nat):Row (w.setCell ⟨g,i,none⟩ (U μ (v:Int))) g (cpA (c.setR i v)) t:=by
 have:=h.setCell i (U μ (v:Int))
 rwa [cpA_setR c hi] at this
theorem Row.setSy {w:World} {g:Nat} {c:Cp} {t:TypeId} (h:Row w g (cpA c) t) {i:Nat} (hi:i<8) (v:Nat):Row (w.setCell ⟨g,17+i,none⟩ (U μ (v:Int))) g (cpA (c.setS i v)) t:=by
 have:=h.setCell (17+i) (U μ (v:Int))
 rwa [cpA_setS c hi] at this
def jmp (o:Nat) (c:Cp) (a b i:Nat):Cp:=
 if o=11 then(if c.r a=c.r b then c.setP i else c.setP ((c.pc+4)%65536))
 else if o=12 then(if c.r a=c.r b then c.setP ((c.pc+4)%65536) else c.setP i)
 else if o=13 then(if c.r a<c.r b then c.setP i else c.setP ((c.pc+4)%65536))
 else if o=14 then c.setP i
 else if o=15 then(c.setR a ((c.pc+4)%65536).toNat).setP i
 else c.setP ((c.r b%65536:Nat):Int)
theorem pre_j (w:World) (c:Cp) (o:Int) (a b d i:Nat):∃ v0 g0 gi g1,v0=(((w.alloc (ω (cpA c) 30)).alloc (ω #[U κ o,U κ (a:Int),U κ (b:Int),U κ (d:Int),U κ (i:Int)] 69)).alloc (ω #[U μ 0,U μ 0,U μ 0,U μ 0,U μ 0,U μ 0,U μ 0,U μ 0,U μ 0,U μ 0,U μ 0,U μ 0,U μ 0,U μ 0,U μ 0,U μ 0,U κ 0,U μ 0,U μ 0,U μ 0,U μ 0,U μ 0,U μ 0,U μ 0,U μ 0] 30))∧g0=w.heap.size∧gi=w.heap.size+1∧g1=w.heap.size+2∧Hid (g0≠gi∧g0≠g1∧gi≠g1)∧Row v0 g0 (cpA c) 30∧Row v0 gi #[U κ o,U κ (a:Int),U κ (b:Int),U κ (d:Int),U κ (i:Int)] 69∧Row v0 g1 #[U μ 0,U μ 0,U μ 0,U μ 0,U μ 0,U μ 0,U μ 0,U μ 0,U μ 0,U μ 0,U μ 0,U μ 0,U μ 0,U μ 0,U μ 0,U μ 0,U κ 0,U μ 0,U μ 0,U μ 0,U μ 0,U μ 0,U μ 0,U μ 0,U μ 0] 30∧Fr bg w v0:=
 ⟨_,_,_,_,rfl,rfl,rfl,rfl,(show _∧_∧_ by omega),((ba _ _ _).alloc _).alloc _,(dq (by simp)).alloc _,dq (by simp),(((Fr.refl bg w).alloc _).alloc _).alloc _⟩
theorem djmp_11t (w:World) (c:Cp) (hok:c.Ok) (a b d i:Nat) (ha:a<16) (hb:b<16) (hi:i<65536) (_hp:0≤c.pc∧c.pc≤65535) (hq:c.r a=c.r b) :
  Calls pQ 36 #[.agg (cpA c),.agg #[U κ 11,U κ (a:Int),U κ (b:Int),U κ (d:Int),U κ (i:Int)]] w fun e w'=>e=ρ (.agg (cpA (c.setP i)))∧Fr bg w w':=by
 rw[show c.setP i=c.setP ((i:Int)%65536) by rw[show(i:Int)%65536=(i:Int) by omega]]
 obtain ⟨v0,g0,gi,g1,hv0,hg0,hgi,hg1,hne,p0,pi,p1,f0⟩:=pre_j w c 11 a b d i
 have hlt:w.heap.size≤g1:=by omega
 go_enter Tryz.func36,Tryz.ntmps36
 go_upto_region 1 with fail
 rw[←hv0,←hg1,←hgi,←hg0]
 clear hv0 hg0 hgi hg1
 have y0:v0.cell? ⟨g0,a,none⟩=some (U μ ((c.r a:Nat):Int)):=p0.rg ha
 have y1:v0.cell? ⟨g0,b,none⟩=some (U μ ((c.r b:Nat):Int)):=p0.rg hb
 have y2:=p0.pc
 obtain ⟨x0,x1,x2,x3,x4⟩:=bl pi
 have ia:0≤(a:Int)∧(a:Int)<16:=by omega
 have ib:0≤(b:Int)∧(b:Int)<16:=by omega
 have ra:=hok.r a
 have rb:=hok.r b
 have t0:decide (((c.r a:Nat):Int)=((c.r b:Nat):Int))=true:=decide_eq_true (by omega)
 have t1:(((c.r a:Nat):Int) == ((c.r b:Nat):Int))=true:=by simp;omega
 go_wp2_with (refine bh rfl 30 _ rfl g0 rfl (cpA c) _ (cq p0) Tryz.underlying30 rfl (bk _) ?_)
 refine(cn _ c (i:Int) (by omega)).mono ?_
 rintro e v ⟨rfl,fv⟩
 have q1:=p1.keep fv (fun h=>h)
 have q2:=q1.setRow (A:=cpA ((c).setP (((i:Int))%65536)))
 have HF:Hid (Fr bg w (v.setRow g1 (cpA ((c).setP (((i:Int))%65536))))):=(f0.trans fv).newer (bb _ g1 _) hlt
 clear p0 p1 pi f0 y0 y1 y2 x0 x1 x2 x3 x4 fv
 go_wp2_with (refine wpList_store_row rfl 30 _ _ rfl g1 (cpA ((c).setP (((i:Int))%65536))) rfl rfl 30 _ q1 (bk _) (bj _).symm (bw _) ?_)
 refine bodyPost_ret (m6 rfl rfl q2 (bj _)) rfl ?_
 exact ⟨rfl,HF.out⟩
theorem djmp_11f (w:World) (c:Cp) (hok:c.Ok) (a b d i:Nat) (ha:a<16) (hb:b<16) (_hi:i<65536) (hp:0≤c.pc∧c.pc≤65535) (hq:¬ c.r a=c.r b) :
  Calls pQ 36 #[.agg (cpA c),.agg #[U κ 11,U κ (a:Int),U κ (b:Int),U κ (d:Int),U κ (i:Int)]] w fun e w'=>e=ρ (.agg (cpA (c.setP ((c.pc+4)%65536))))∧Fr bg w w':=by
 obtain ⟨v0,g0,gi,g1,hv0,hg0,hgi,hg1,hne,p0,pi,p1,f0⟩:=pre_j w c 11 a b d i
 have hlt:w.heap.size≤g1:=by omega
 go_enter Tryz.func36,Tryz.ntmps36
 go_upto_region 1 with fail
 rw[←hv0,←hg1,←hgi,←hg0]
 clear hv0 hg0 hgi hg1
 have y0:v0.cell? ⟨g0,a,none⟩=some (U μ ((c.r a:Nat):Int)):=p0.rg ha
 have y1:v0.cell? ⟨g0,b,none⟩=some (U μ ((c.r b:Nat):Int)):=p0.rg hb
 have y2:=p0.pc
 obtain ⟨x0,x1,x2,x3,x4⟩:=bl pi
 have ia:0≤(a:Int)∧(a:Int)<16:=by omega
 have ib:0≤(b:Int)∧(b:Int)<16:=by omega
 have ra:=hok.r a
 have rb:=hok.r b
 have t0:decide (((c.r a:Nat):Int)=((c.r b:Nat):Int))=false:=decide_eq_false (by omega)
 have t1:(((c.r a:Nat):Int) == ((c.r b:Nat):Int))=false:=by simp;omega
 have e4:IntKind.i64.wrap (c.pc+4)=c.pc+4:=by rw[IntKind.wrap_i64];omega
 go_wp2_with (refine bh rfl 30 _ rfl g0 rfl (cpA c) _ (cq p0) Tryz.underlying30 rfl (bk _) ?_)
 refine(cn _ c (c.pc+4) (by omega)).mono ?_
 rintro e v ⟨rfl,fv⟩
 have q1:=p1.keep fv (fun h=>h)
 have q2:=q1.setRow (A:=cpA ((c).setP (((c.pc+4))%65536)))
 have HF:Hid (Fr bg w (v.setRow g1 (cpA ((c).setP (((c.pc+4))%65536))))):=(f0.trans fv).newer (bb _ g1 _) hlt
 clear p0 p1 pi f0 y0 y1 y2 x0 x1 x2 x3 x4 fv
 go_wp2_with (refine wpList_store_row rfl 30 _ _ rfl g1 (cpA ((c).setP (((c.pc+4))%65536))) rfl rfl 30 _ q1 (bk _) (bj _).symm (bw _) ?_)
 refine bodyPost_ret (m6 rfl rfl q2 (bj _)) rfl ?_
 exact ⟨rfl,HF.out⟩
theorem djmp_12t (w:World) (c:Cp) (hok:c.Ok) (a b d i:Nat) (ha:a<16) (hb:b<16) (hi:i<65536) (_hp:0≤c.pc∧c.pc≤65535) (hq:¬ c.r a=c.r b) :
  Calls pQ 36 #[.agg (cpA c),.agg #[U κ 12,U κ (a:Int),U κ (b:Int),U κ (d:Int),U κ (i:Int)]] w fun e w'=>e=ρ (.agg (cpA (c.setP i)))∧Fr bg w w':=by
 rw[show c.setP i=c.setP ((i:Int)%65536) by rw[show(i:Int)%65536=(i:Int) by omega]]
 obtain ⟨v0,g0,gi,g1,hv0,hg0,hgi,hg1,hne,p0,pi,p1,f0⟩:=pre_j w c 12 a b d i
 have hlt:w.heap.size≤g1:=by omega
 go_enter Tryz.func36,Tryz.ntmps36
 go_upto_region 1 with fail
 rw[←hv0,←hg1,←hgi,←hg0]
 clear hv0 hg0 hgi hg1
 have y0:v0.cell? ⟨g0,a,none⟩=some (U μ ((c.r a:Nat):Int)):=p0.rg ha
 have y1:v0.cell? ⟨g0,b,none⟩=some (U μ ((c.r b:Nat):Int)):=p0.rg hb
 have y2:=p0.pc
 obtain ⟨x0,x1,x2,x3,x4⟩:=bl pi
 have ia:0≤(a:Int)∧(a:Int)<16:=by omega
 have ib:0≤(b:Int)∧(b:Int)<16:=by omega
 have ra:=hok.r a
 have rb:=hok.r b
 have t0:decide (((c.r a:Nat):Int)=((c.r b:Nat):Int))=false:=decide_eq_false (by omega)
 have t1:(((c.r a:Nat):Int) == ((c.r b:Nat):Int))=false:=by simp;omega
 have t2:(((c.r a:Nat):Int) != ((c.r b:Nat):Int))=true:=by simp;omega
 go_wp2_with (refine bh rfl 30 _ rfl g0 rfl (cpA c) _ (cq p0) Tryz.underlying30 rfl (bk _) ?_)
 refine(cn _ c (i:Int) (by omega)).mono ?_
 rintro e v ⟨rfl,fv⟩
 have q1:=p1.keep fv (fun h=>h)
 have q2:=q1.setRow (A:=cpA ((c).setP (((i:Int))%65536)))
 have HF:Hid (Fr bg w (v.setRow g1 (cpA ((c).setP (((i:Int))%65536))))):=(f0.trans fv).newer (bb _ g1 _) hlt
 clear p0 p1 pi f0 y0 y1 y2 x0 x1 x2 x3 x4 fv
 go_wp2_with (refine wpList_store_row rfl 30 _ _ rfl g1 (cpA ((c).setP (((i:Int))%65536))) rfl rfl 30 _ q1 (bk _) (bj _).symm (bw _) ?_)
 refine bodyPost_ret (m6 rfl rfl q2 (bj _)) rfl ?_
 exact ⟨rfl,HF.out⟩
theorem djmp_12f (w:World) (c:Cp) (hok:c.Ok) (a b d i:Nat) (ha:a<16) (hb:b<16) (_hi:i<65536) (hp:0≤c.pc∧c.pc≤65535) (hq:c.r a=c.r b) :
  Calls pQ 36 #[.agg (cpA c),.agg #[U κ 12,U κ (a:Int),U κ (b:Int),U κ (d:Int),U κ (i:Int)]] w fun e w'=>e=ρ (.agg (cpA (c.setP ((c.pc+4)%65536))))∧Fr bg w w':=by
 obtain ⟨v0,g0,gi,g1,hv0,hg0,hgi,hg1,hne,p0,pi,p1,f0⟩:=pre_j w c 12 a b d i
 have hlt:w.heap.size≤g1:=by omega
 go_enter Tryz.func36,Tryz.ntmps36
 go_upto_region 1 with fail
 rw[←hv0,←hg1,←hgi,←hg0]
 clear hv0 hg0 hgi hg1
 have y0:v0.cell? ⟨g0,a,none⟩=some (U μ ((c.r a:Nat):Int)):=p0.rg ha
 have y1:v0.cell? ⟨g0,b,none⟩=some (U μ ((c.r b:Nat):Int)):=p0.rg hb
 have y2:=p0.pc
 obtain ⟨x0,x1,x2,x3,x4⟩:=bl pi
 have ia:0≤(a:Int)∧(a:Int)<16:=by omega
 have ib:0≤(b:Int)∧(b:Int)<16:=by omega
 have ra:=hok.r a
 have rb:=hok.r b
 have t0:decide (((c.r a:Nat):Int)=((c.r b:Nat):Int))=true:=decide_eq_true (by omega)
 have t1:(((c.r a:Nat):Int) == ((c.r b:Nat):Int))=true:=by simp;omega
 have t2:(((c.r a:Nat):Int) != ((c.r b:Nat):Int))=false:=by simp;omega
 have e4:IntKind.i64.wrap (c.pc+4)=c.pc+4:=by rw[IntKind.wrap_i64];omega
 go_wp2_with (refine bh rfl 30 _ rfl g0 rfl (cpA c) _ (cq p0) Tryz.underlying30 rfl (bk _) ?_)
 refine(cn _ c (c.pc+4) (by omega)).mono ?_
 rintro e v ⟨rfl,fv⟩
 have q1:=p1.keep fv (fun h=>h)
 have q2:=q1.setRow (A:=cpA ((c).setP (((c.pc+4))%65536)))
 have HF:Hid (Fr bg w (v.setRow g1 (cpA ((c).setP (((c.pc+4))%65536))))):=(f0.trans fv).newer (bb _ g1 _) hlt
 clear p0 p1 pi f0 y0 y1 y2 x0 x1 x2 x3 x4 fv
 go_wp2_with (refine wpList_store_row rfl 30 _ _ rfl g1 (cpA ((c).setP (((c.pc+4))%65536))) rfl rfl 30 _ q1 (bk _) (bj _).symm (bw _) ?_)
 refine bodyPost_ret (m6 rfl rfl q2 (bj _)) rfl ?_
 exact ⟨rfl,HF.out⟩
theorem djmp_13t (w:World) (c:Cp) (hok:c.Ok) (a b d i:Nat) (ha:a<16) (hb:b<16) (hi:i<65536) (_hp:0≤c.pc∧c.pc≤65535) (hq:c.r a<c.r b) :
  Calls pQ 36 #[.agg (cpA c),.agg #[U κ 13,U κ (a:Int),U κ (b:Int),U κ (d:Int),U κ (i:Int)]] w fun e w'=>e=ρ (.agg (cpA (c.setP i)))∧Fr bg w w':=by
 rw[show c.setP i=c.setP ((i:Int)%65536) by rw[show(i:Int)%65536=(i:Int) by omega]]
 obtain ⟨v0,g0,gi,g1,hv0,hg0,hgi,hg1,hne,p0,pi,p1,f0⟩:=pre_j w c 13 a b d i
 have hlt:w.heap.size≤g1:=by omega
 go_enter Tryz.func36,Tryz.ntmps36
 go_upto_region 1 with fail
 rw[←hv0,←hg1,←hgi,←hg0]
 clear hv0 hg0 hgi hg1
 have y0:v0.cell? ⟨g0,a,none⟩=some (U μ ((c.r a:Nat):Int)):=p0.rg ha
 have y1:v0.cell? ⟨g0,b,none⟩=some (U μ ((c.r b:Nat):Int)):=p0.rg hb
 have y2:=p0.pc
 obtain ⟨x0,x1,x2,x3,x4⟩:=bl pi
 have ia:0≤(a:Int)∧(a:Int)<16:=by omega
 have ib:0≤(b:Int)∧(b:Int)<16:=by omega
 have ra:=hok.r a
 have rb:=hok.r b
 have t0:decide (((c.r a:Nat):Int)<((c.r b:Nat):Int))=true:=decide_eq_true (by omega)
 go_wp2_with (refine bh rfl 30 _ rfl g0 rfl (cpA c) _ (cq p0) Tryz.underlying30 rfl (bk _) ?_)
 refine(cn _ c (i:Int) (by omega)).mono ?_
 rintro e v ⟨rfl,fv⟩
 have q1:=p1.keep fv (fun h=>h)
 have q2:=q1.setRow (A:=cpA ((c).setP (((i:Int))%65536)))
 have HF:Hid (Fr bg w (v.setRow g1 (cpA ((c).setP (((i:Int))%65536))))):=(f0.trans fv).newer (bb _ g1 _) hlt
 clear p0 p1 pi f0 y0 y1 y2 x0 x1 x2 x3 x4 fv
 go_wp2_with (refine wpList_store_row rfl 30 _ _ rfl g1 (cpA ((c).setP (((i:Int))%65536))) rfl rfl 30 _ q1 (bk _) (bj _).symm (bw _) ?_)
 refine bodyPost_ret (m6 rfl rfl q2 (bj _)) rfl ?_
 exact ⟨rfl,HF.out⟩
theorem djmp_13f (w:World) (c:Cp) (hok:c.Ok) (a b d i:Nat) (ha:a<16) (hb:b<16) (_hi:i<65536) (hp:0≤c.pc∧c.pc≤65535) (hq:¬ c.r a<c.r b) :
  Calls pQ 36 #[.agg (cpA c),.agg #[U κ 13,U κ (a:Int),U κ (b:Int),U κ (d:Int),U κ (i:Int)]] w fun e w'=>e=ρ (.agg (cpA (c.setP ((c.pc+4)%65536))))∧Fr bg w w':=by
 obtain ⟨v0,g0,gi,g1,hv0,hg0,hgi,hg1,hne,p0,pi,p1,f0⟩:=pre_j w c 13 a b d i
 have hlt:w.heap.size≤g1:=by omega
 go_enter Tryz.func36,Tryz.ntmps36
 go_upto_region 1 with fail
 rw[←hv0,←hg1,←hgi,←hg0]
 clear hv0 hg0 hgi hg1
 have y0:v0.cell? ⟨g0,a,none⟩=some (U μ ((c.r a:Nat):Int)):=p0.rg ha
 have y1:v0.cell? ⟨g0,b,none⟩=some (U μ ((c.r b:Nat):Int)):=p0.rg hb
 have y2:=p0.pc
 obtain ⟨x0,x1,x2,x3,x4⟩:=bl pi
 have ia:0≤(a:Int)∧(a:Int)<16:=by omega
 have ib:0≤(b:Int)∧(b:Int)<16:=by omega
 have ra:=hok.r a
 have rb:=hok.r b
 have t0:decide (((c.r a:Nat):Int)<((c.r b:Nat):Int))=false:=decide_eq_false (by omega)
 have e4:IntKind.i64.wrap (c.pc+4)=c.pc+4:=by rw[IntKind.wrap_i64];omega
 go_wp2_with (refine bh rfl 30 _ rfl g0 rfl (cpA c) _ (cq p0) Tryz.underlying30 rfl (bk _) ?_)
 refine(cn _ c (c.pc+4) (by omega)).mono ?_
 rintro e v ⟨rfl,fv⟩
 have q1:=p1.keep fv (fun h=>h)
 have q2:=q1.setRow (A:=cpA ((c).setP (((c.pc+4))%65536)))
 have HF:Hid (Fr bg w (v.setRow g1 (cpA ((c).setP (((c.pc+4))%65536))))):=(f0.trans fv).newer (bb _ g1 _) hlt
 clear p0 p1 pi f0 y0 y1 y2 x0 x1 x2 x3 x4 fv
 go_wp2_with (refine wpList_store_row rfl 30 _ _ rfl g1 (cpA ((c).setP (((c.pc+4))%65536))) rfl rfl 30 _ q1 (bk _) (bj _).symm (bw _) ?_)
 refine bodyPost_ret (m6 rfl rfl q2 (bj _)) rfl ?_
 exact ⟨rfl,HF.out⟩
theorem djmp_14 (w:World) (c:Cp) (hok:c.Ok) (a b d i:Nat) (ha:a<16) (hb:b<16) (hi:i<65536) (_hp:0≤c.pc∧c.pc≤65535) :
  Calls pQ 36 #[.agg (cpA c),.agg #[U κ 14,U κ (a:Int),U κ (b:Int),U κ (d:Int),U κ (i:Int)]] w fun e w'=>e=ρ (.agg (cpA (c.setP i)))∧Fr bg w w':=by
 rw[show c.setP i=c.setP ((i:Int)%65536) by rw[show(i:Int)%65536=(i:Int) by omega]]
 obtain ⟨v0,g0,gi,g1,hv0,hg0,hgi,hg1,hne,p0,pi,p1,f0⟩:=pre_j w c 14 a b d i
 have hlt:w.heap.size≤g1:=by omega
 go_enter Tryz.func36,Tryz.ntmps36
 go_upto_region 1 with fail
 rw[←hv0,←hg1,←hgi,←hg0]
 clear hv0 hg0 hgi hg1
 have y0:v0.cell? ⟨g0,a,none⟩=some (U μ ((c.r a:Nat):Int)):=p0.rg ha
 have y1:v0.cell? ⟨g0,b,none⟩=some (U μ ((c.r b:Nat):Int)):=p0.rg hb
 have y2:=p0.pc
 obtain ⟨x0,x1,x2,x3,x4⟩:=bl pi
 have ia:0≤(a:Int)∧(a:Int)<16:=by omega
 have ib:0≤(b:Int)∧(b:Int)<16:=by omega
 have ra:=hok.r a
 have rb:=hok.r b
 go_wp2_with (refine bh rfl 30 _ rfl g0 rfl (cpA c) _ (cq p0) Tryz.underlying30 rfl (bk _) ?_)
 refine(cn _ c (i:Int) (by omega)).mono ?_
 rintro e v ⟨rfl,fv⟩
 have q1:=p1.keep fv (fun h=>h)
 have q2:=q1.setRow (A:=cpA ((c).setP (((i:Int))%65536)))
 have HF:Hid (Fr bg w (v.setRow g1 (cpA ((c).setP (((i:Int))%65536))))):=(f0.trans fv).newer (bb _ g1 _) hlt
 clear p0 p1 pi f0 y0 y1 y2 x0 x1 x2 x3 x4 fv
 go_wp2_with (refine wpList_store_row rfl 30 _ _ rfl g1 (cpA ((c).setP (((i:Int))%65536))) rfl rfl 30 _ q1 (bk _) (bj _).symm (bw _) ?_)
 refine bodyPost_ret (m6 rfl rfl q2 (bj _)) rfl ?_
 exact ⟨rfl,HF.out⟩
theorem djmp_15 (w:World) (c:Cp) (hok:c.Ok) (a b d i:Nat) (ha:a<16) (hb:b<16) (hi:i<65536) (hp:0≤c.pc∧c.pc≤65535) :
  Calls pQ 36 #[.agg (cpA c),.agg #[U κ 15,U κ (a:Int),U κ (b:Int),U κ (d:Int),U κ (i:Int)]] w fun e w'=>e=ρ (.agg (cpA ((c.setR a ((c.pc+4)%65536).toNat).setP i)))∧Fr bg w w':=by
 rw[show(c.setR a ((c.pc+4)%65536).toNat).setP i=(c.setR a ((c.pc+4)%65536).toNat).setP ((i:Int)%65536) by rw[show(i:Int)%65536=(i:Int) by omega]]
 obtain ⟨v0,g0,gi,g1,hv0,hg0,hgi,hg1,hne,p0,pi,p1,f0⟩:=pre_j w c 15 a b d i
 have hlt:w.heap.size≤g1:=by omega
 have hl0:w.heap.size≤g0:=by omega
 obtain ⟨q,hq⟩:∃ q:Nat,q=((c.pc+4)%65536).toNat:=⟨_,rfl⟩
 have hqq:(c.pc+4)%65536=(q:Int)∧q<65536:=by omega
 rw[←hq]
 clear hq
 go_enter Tryz.func36,Tryz.ntmps36
 go_upto_region 1 with fail
 rw[←hv0,←hg1,←hgi,←hg0]
 clear hv0 hg0 hgi hg1
 have y0:v0.cell? ⟨g0,a,none⟩=some (U μ ((c.r a:Nat):Int)):=p0.rg ha
 have y1:v0.cell? ⟨g0,b,none⟩=some (U μ ((c.r b:Nat):Int)):=p0.rg hb
 have y2:=p0.pc
 obtain ⟨x0,x1,x2,x3,x4⟩:=bl pi
 have ia:0≤(a:Int)∧(a:Int)<16:=by omega
 have ib:0≤(b:Int)∧(b:Int)<16:=by omega
 have ra:=hok.r a
 have rb:=hok.r b
 have e4:IntKind.i64.wrap (c.pc+4)=c.pc+4:=by rw[IntKind.wrap_i64];omega
 have e5:(c.pc+4).tmod 65536=(q:Int):=by rw[Int.tmod_eq_emod_of_nonneg (by omega)];omega
 have e7:(c.pc+4)%65536=(q:Int):=by omega
 have hq2:q<65536:=by omega
 have p0':=p0.setRg ha q
 have y5:=p0.frozen a
 have x4':=cd (cy v0 g0 a (U μ (q:Int)) (Fr.refl (at' g0) v0)) x4 (fun e=>hne.out.1 e.symm)
 go_wp2_with (refine bh rfl 30 _ rfl g0 rfl (cpA (c.setR a q)) _ (cq p0') Tryz.underlying30 rfl (bk _) ?_)
 refine(cn _ (c.setR a q) (i:Int) (by omega)).mono ?_
 rintro e v ⟨rfl,fv⟩
 have q1:=(p1.keep (cy v0 g0 a (U μ (q:Int)) (Fr.refl (at' g0) v0)) (fun e=>hne.out.2.1 e.symm)).keep fv (fun h=>h)
 have q2:=q1.setRow (A:=cpA (((c.setR a q)).setP (((i:Int))%65536)))
 have HF:Hid (Fr bg w (v.setRow g1 (cpA (((c.setR a q)).setP (((i:Int))%65536))))):=((f0.newer (cy v0 g0 a (U μ (q:Int)) (Fr.refl _ v0)) hl0).trans fv).newer (bb _ g1 _) hlt
 clear p0 p0' x4' y5 p1 pi f0 y0 y1 y2 x0 x1 x2 x3 x4 fv
 go_wp2_with (refine wpList_store_row rfl 30 _ _ rfl g1 (cpA (((c.setR a q)).setP (((i:Int))%65536))) rfl rfl 30 _ q1 (bk _) (bj _).symm (bw _) ?_)
 refine bodyPost_ret (m6 rfl rfl q2 (bj _)) rfl ?_
 exact ⟨rfl,HF.out⟩
theorem djmp_16 (w:World) (c:Cp) (hok:c.Ok) (a b d i:Nat) (ha:a<16) (hb:b<16) (_hi:i<65536) (_hp:0≤c.pc∧c.pc≤65535) :
  Calls pQ 36 #[.agg (cpA c),.agg #[U κ 16,U κ (a:Int),U κ (b:Int),U κ (d:Int),U κ (i:Int)]] w fun e w'=>e=ρ (.agg (cpA (c.setP ((c.r b%65536:Nat):Int))))∧Fr bg w w':=by
 obtain ⟨v0,g0,gi,g1,hv0,hg0,hgi,hg1,hne,p0,pi,p1,f0⟩:=pre_j w c 16 a b d i
 have hlt:w.heap.size≤g1:=by omega
 obtain ⟨q,hq⟩:∃ q:Nat,q=c.r b%65536:=⟨_,rfl⟩
 have hqq:((c.r b:Nat):Int)%65536=(q:Int)∧q<65536:=by omega
 rw[←hq,show c.setP (q:Int)=c.setP ((q:Int)%65536) by rw[show(q:Int)%65536=(q:Int) by omega]]
 clear hq
 go_enter Tryz.func36,Tryz.ntmps36
 go_upto_region 1 with fail
 rw[←hv0,←hg1,←hgi,←hg0]
 clear hv0 hg0 hgi hg1
 have y0:v0.cell? ⟨g0,a,none⟩=some (U μ ((c.r a:Nat):Int)):=p0.rg ha
 have y1:v0.cell? ⟨g0,b,none⟩=some (U μ ((c.r b:Nat):Int)):=p0.rg hb
 have y2:=p0.pc
 obtain ⟨x0,x1,x2,x3,x4⟩:=bl pi
 have ia:0≤(a:Int)∧(a:Int)<16:=by omega
 have ib:0≤(b:Int)∧(b:Int)<16:=by omega
 have ra:=hok.r a
 have rb:=hok.r b
 have e5:((c.r b:Nat):Int).tmod 65536=(q:Int):=by rw[Int.tmod_eq_emod_of_nonneg (by omega)];omega
 have e7:((c.r b:Nat):Int)%65536=(q:Int):=by omega
 have hq2:q<65536:=by omega
 go_wp2_with (refine bh rfl 30 _ rfl g0 rfl (cpA c) _ (cq p0) Tryz.underlying30 rfl (bk _) ?_)
 refine(cn _ c (q:Int) (by omega)).mono ?_
 rintro e v ⟨rfl,fv⟩
 have q1:=p1.keep fv (fun h=>h)
 have q2:=q1.setRow (A:=cpA ((c).setP (((q:Int))%65536)))
 have HF:Hid (Fr bg w (v.setRow g1 (cpA ((c).setP (((q:Int))%65536))))):=(f0.trans fv).newer (bb _ g1 _) hlt
 clear p0 p1 pi f0 y0 y1 y2 x0 x1 x2 x3 x4 fv
 go_wp2_with (refine wpList_store_row rfl 30 _ _ rfl g1 (cpA ((c).setP (((q:Int))%65536))) rfl rfl 30 _ q1 (bk _) (bj _).symm (bw _) ?_)
 refine bodyPost_ret (m6 rfl rfl q2 (bj _)) rfl ?_
 exact ⟨rfl,HF.out⟩
theorem jmp_11 (c:Cp) (a b i:Nat):jmp 11 c a b i=if c.r a=c.r b then c.setP i else c.setP ((c.pc+4)%65536):=by unfold jmp;rw[if_pos rfl]
theorem jmp_12 (c:Cp) (a b i:Nat):jmp 12 c a b i=if c.r a=c.r b then c.setP ((c.pc+4)%65536) else c.setP i:=by unfold jmp;rw[if_neg (by decide),if_pos rfl]
theorem jmp_13 (c:Cp) (a b i:Nat):jmp 13 c a b i=if c.r a<c.r b then c.setP i else c.setP ((c.pc+4)%65536):=by unfold jmp;rw[if_neg (by decide),if_neg (by decide),if_pos rfl]
theorem jmp_14 (c:Cp) (a b i:Nat):jmp 14 c a b i=c.setP i:=by unfold jmp;rw[if_neg (by decide),if_neg (by decide),if_neg (by decide),if_pos rfl]
theorem jmp_15 (c:Cp) (a b i:Nat):jmp 15 c a b i=(c.setR a ((c.pc+4)%65536).toNat).setP i:=by unfold jmp;rw[if_neg (by decide),if_neg (by decide),if_neg (by decide),if_neg (by decide),if_pos rfl]
theorem jmp_16 (c:Cp) (a b i:Nat):jmp 16 c a b i=c.setP ((c.r b%65536:Nat):Int):=by unfold jmp;rw[if_neg (by decide),if_neg (by decide),if_neg (by decide),if_neg (by decide),if_neg (by decide)]
theorem djmp_any (w:World) (c:Cp) (hok:c.Ok) (o a b d i:Nat) (ho:11≤o∧o≤16) (ha:a<16) (hb:b<16) (hi:i<65536) (hp:0≤c.pc∧c.pc≤65535) :
  Calls pQ 36 #[.agg (cpA c),.agg #[U κ (o:Int),U κ (a:Int),U κ (b:Int),U κ (d:Int),U κ (i:Int)]] w fun e w'=>e=ρ (.agg (cpA (jmp o c a b i)))∧Fr bg w w':=by
 have h:o=11∨o=12∨o=13∨o=14∨o=15∨o=16:=by omega
 rcases h with rfl | rfl | rfl | rfl | rfl | rfl
 ·rw[jmp_11]
  by_cases hq:c.r a=c.r b
  ·rw[if_pos hq];exact djmp_11t w c hok a b d i ha hb hi hp hq
  ·rw[if_neg hq];exact djmp_11f w c hok a b d i ha hb hi hp hq
 ·rw[jmp_12]
  by_cases hq:c.r a=c.r b
  ·rw[if_pos hq];exact djmp_12f w c hok a b d i ha hb hi hp hq
  ·rw[if_neg hq];exact djmp_12t w c hok a b d i ha hb hi hp hq
 ·rw[jmp_13]
  by_cases hq:c.r a<c.r b
  ·rw[if_pos hq];exact djmp_13t w c hok a b d i ha hb hi hp hq
  ·rw[if_neg hq];exact djmp_13f w c hok a b d i ha hb hi hp hq
 ·rw[jmp_14];exact djmp_14 w c hok a b d i ha hb hi hp
 ·rw[jmp_15];exact djmp_15 w c hok a b d i ha hb hi hp
 ·rw[jmp_16];exact djmp_16 w c hok a b d i ha hb hi hp
end Go.Proofs.YtibhbjbpodlpiaaGreat
