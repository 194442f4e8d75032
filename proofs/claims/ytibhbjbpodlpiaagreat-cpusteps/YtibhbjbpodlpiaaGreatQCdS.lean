/-
  Contracts over the translation. No statement is proved here.
-/
import Derived.Test.YtibhbjbpodlpiaaGreatQCdL
import Derived.Test.YtibhbjbpodlpiaaGreatQCdQ
import Derived.Test.YtibhbjbpodlpiaaGreatQJV
set_option maxRecDepth 100000
set_option maxHeartbeats 8000000
namespace Go.Proofs.YtibhbjbpodlpiaaGreat
open Go.RowKit
open Go.Value renaming int → U, bool → β, pointer → π, tuple → τ
open Go.IntKind renaming i64 → κ, u32 → μ
open Go.Obj renaming cells → ω
open Go.Ending renaming returned → ρ
open Go.Proofs.Tryz renaming prog → pQ
structure Und (X:Wk) (c:Cp) (M:Mc):Prop where
 z:X.z=c.setP ((c.pc+4)%65536)
 pc:X.pc=c.pc
 a:X.a<16
 b:X.b<16
 i:X.imm<65536
 ok:c.Ok
 lo:0≤c.pc∧c.pc≤65535
 sd:0≤X.sd
 vm:0≤X.vm∨∀ k,k<8→M.T k=zl
 g:isG X.op=true→M.V≠none
def insX (X:Wk):Value:=.agg #[U κ (X.op:Int),U κ (X.a:Int),U κ (X.b:Int),U κ (X.c:Int),U κ (X.imm:Int)]
def spcX (X:Wk):Value:=.agg #[U κ X.vm,U κ X.sd,U κ X.fi,U κ X.se]
def Dn (w:World) (D:Bd) (nf:Nat) (c:Cp) (R:Mc×Wk×Tr) (e:Ending) (w':World):Prop:=e=ρ (τ #[.agg (cpA (stC c R)),.agg (trL R.2.2)])∧Fr D.s w w'∧IsMd w' D nf R.1
theorem Dn.mk {w w':World} {D:Bd} {nf:Nat} {c c':Cp} {t:Tr} {M':Mc} {R:Mc×Wk×Tr} {e:Ending} (h:e=ρ (τ #[.agg (cpA c'),.agg (trL t)])∧Fr D.s w w'∧IsMd w' D nf M') (h1:stC c R=c') (h2:R.2.2=t) (h3:R.1=M'):Dn w D nf c R e w':=by
 unfold Dn
 rw[h1,h2,h3]
 exact h
theorem mt {c:Cp} {R:Mc×Wk×Tr} (h:R.2.2.ca=0∨R.2.2.ca=10):stC c R=R.2.1.z:=if_pos h
theorem ms {c:Cp} {R:Mc×Wk×Tr} (h:¬ (R.2.2.ca=0∨R.2.2.ca=10)):stC c R=c:=if_neg h
theorem dother_any (w:World) (D:Bd) (nf:Nat) (M:Mc) (c:Cp) (X:Wk) (h:IsMd w D nf M) (hG:kh M.T) (u:Und X c M) (ho:17≤X.op∧X.op≤25) :
  Calls pQ 37 #[D.a,.agg (cpA c),insX X,spcX X] w (Dn w D nf c (ji nf M X)):=by
 obtain ⟨p,t,v,vm,sd,fi,se,ix,pc,wd,op,a,b,d,imm,z⟩:=X
 obtain ⟨hz,hpc,ha,hb,hi,hok,hlo,hsd,hvm,hg⟩:=u
 dsimp only at hz hpc ha hb hi hsd hvm hg ho
 subst hz hpc
 have h17:op=17∨op=18∨op=19∨op=20∨op=21∨op=22∨op=23∨op=24∨op=25:=by omega
 rcases h17 with rfl | rfl | rfl | rfl | rfl | rfl | rfl | rfl | rfl
 ·exact(doth_17 w D nf M c hok vm sd fi se a b d imm ha hb hi hlo h).mono fun e w' q=>Dn.mk q (ms (by show ¬ ((5:Int)=0∨(5:Int)=10);decide)) rfl rfl
 ·exact(doth_18 w D nf M c hok vm sd fi se a b d imm ha hb hi hlo h).mono fun e w' q=>Dn.mk q (ms (by show ¬ ((6:Int)=0∨(6:Int)=10);decide)) rfl rfl
 ·by_cases hq:6<imm
  ·have e1:ji nf M ⟨p,t,v,vm,sd,fi,se,ix,c.pc,wd,19,a,b,d,imm,c.setP ((c.pc+4)%65536)⟩=(M,⟨p,t,v,vm,sd,fi,se,ix,c.pc,wd,19,a,b,d,imm,c.setP ((c.pc+4)%65536)⟩,⟨7,imm,c.pc,f0⟩):=by
    show(M,rdX _,rdT _)=_
    unfold rdX rdT
    rw[if_pos (show(6:Int)<(imm:Int) by omega),if_pos (show(6:Int)<(imm:Int) by omega)]
   rw[e1]
   exact(doth_19t w D nf M c hok vm sd fi se a b d imm ha hb hi hlo h hq).mono fun e w' q=>Dn.mk q (ms (by show ¬ ((7:Int)=0∨(7:Int)=10);decide)) rfl rfl
  ·have e1:ji nf M ⟨p,t,v,vm,sd,fi,se,ix,c.pc,wd,19,a,b,d,imm,c.setP ((c.pc+4)%65536)⟩=(M,⟨p,t,v,vm,sd,fi,se,ix,c.pc,wd,19,a,b,d,imm,(c.setP ((c.pc+4)%65536)).setR a (c.s imm)⟩,t0):=by
    show(M,rdX _,rdT _)=_
    unfold rdX rdT
    rw[if_neg (show ¬ (6:Int)<(imm:Int) by omega),if_neg (show ¬ (6:Int)<(imm:Int) by omega)]
    rfl
   rw[e1]
   exact(doth_19 w D nf M c hok vm sd fi se a b d imm ha hb hi hlo h hq).mono fun e w' q=>Dn.mk q (mt (Or.inl rfl)) rfl rfl
 ·have hS:=hg rfl
  obtain ⟨S,hV⟩:=Option.ne_none_iff_exists'.1 hS
  have hMS:M.S=S:=by unfold Mc.S;rw[hV];rfl
  by_cases hq:5<imm
  ·have e1:ji nf M ⟨p,t,v,vm,sd,fi,se,ix,c.pc,wd,20,a,b,d,imm,c.setP ((c.pc+4)%65536)⟩=(M,⟨p,t,v,vm,sd,fi,se,ix,c.pc,wd,20,a,b,d,imm,c.setP ((c.pc+4)%65536)⟩,⟨7,imm,c.pc,f0⟩):=by
    show(wrM M _ _,wrX _,wrT _)=_
    unfold wrM wrX wrT
    rw[if_pos (show(5:Int)<(imm:Int) by omega),if_pos (show(5:Int)<(imm:Int) by omega),if_pos (show(5:Int)<(imm:Int) by omega)]
   rw[e1]
   exact(doth_20t w D nf M c hok vm sd fi se a b d imm ha hb hi hlo h hq).mono fun e w' q=>Dn.mk q (ms (by show ¬ ((7:Int)=0∨(7:Int)=10);decide)) rfl rfl
  ·by_cases hi2:imm=2
   ·have e1:ji nf M ⟨p,t,v,vm,sd,fi,se,ix,c.pc,wd,20,a,b,d,imm,c.setP ((c.pc+4)%65536)⟩=({ M with V:=some (masS S ((min (c.r b) 256:Nat):Int)) },⟨p,t,v,vm,sd,fi,se,ix,c.pc,wd,20,a,b,d,imm,(c.setP ((c.pc+4)%65536)).setS imm (c.r b)⟩,t0):=by
     show(wrM M M.S _,wrX _,wrT _)=_
     rw[hMS]
     unfold wrM wrX wrT
     rw[if_neg (show ¬ (5:Int)<(imm:Int) by omega),if_neg (show ¬ (5:Int)<(imm:Int) by omega),if_neg (show ¬ (5:Int)<(imm:Int) by omega),if_pos (show(imm:Int)=2 by omega)]
     rfl
    rw[e1]
    exact(doth_20s w D nf M c hok vm sd fi se a b d imm ha hb hi hlo h hq hi2 hV).mono fun e w' q=>Dn.mk q (mt (Or.inl rfl)) rfl rfl
   ·have e1:ji nf M ⟨p,t,v,vm,sd,fi,se,ix,c.pc,wd,20,a,b,d,imm,c.setP ((c.pc+4)%65536)⟩=(M,⟨p,t,v,vm,sd,fi,se,ix,c.pc,wd,20,a,b,d,imm,(c.setP ((c.pc+4)%65536)).setS imm (c.r b)⟩,t0):=by
     show(wrM M M.S _,wrX _,wrT _)=_
     unfold wrM wrX wrT
     rw[if_neg (show ¬ (5:Int)<(imm:Int) by omega),if_neg (show ¬ (5:Int)<(imm:Int) by omega),if_neg (show ¬ (5:Int)<(imm:Int) by omega),if_neg (show ¬ (imm:Int)=2 by omega)]
     rfl
    rw[e1]
    exact(doth_20 w D nf M c hok vm sd fi se a b d imm ha hb hi hlo h hq hi2).mono fun e w' q=>Dn.mk q (mt (Or.inl rfl)) rfl rfl
 ·have e1:ji nf M ⟨p,t,v,vm,sd,fi,se,ix,c.pc,wd,21,a,b,d,imm,c.setP ((c.pc+4)%65536)⟩=(M,⟨p,t,v,vm,sd,fi,se,ix,c.pc,wd,21,a,b,d,imm,c.setP ((c.pc+4)%65536)⟩,wfT M ⟨p,t,v,vm,sd,fi,se,ix,c.pc,wd,21,a,b,d,imm,c.setP ((c.pc+4)%65536)⟩):=rfl
  rw[e1]
  cases hV:M.V with
  | none =>
   have e2:wfT M ⟨p,t,v,vm,sd,fi,se,ix,c.pc,wd,21,a,b,d,imm,c.setP ((c.pc+4)%65536)⟩=⟨9,0,c.pc,f0⟩:=by unfold wfT;rw[hV]
   rw[e2]
   exact(doth_21n w D nf M c hok vm sd fi se a b d imm ha hb hi hlo h hV).mono fun e w' q=>Dn.mk q (ms (by show ¬ ((9:Int)=0∨(9:Int)=10);decide)) rfl rfl
  | some S =>
   cases hq:(mw S).isSome with
   | false =>
    have e2:wfT M ⟨p,t,v,vm,sd,fi,se,ix,c.pc,wd,21,a,b,d,imm,c.setP ((c.pc+4)%65536)⟩=⟨9,0,c.pc,f0⟩:=by unfold wfT;rw[hV];dsimp only;rw[if_neg (by rw[hq];decide)]
    rw[e2]
    exact(doth_21f w D nf M c hok vm sd fi se a b d imm ha hb hi hlo h hV hq).mono fun e w' q=>Dn.mk q (ms (by show ¬ ((9:Int)=0∨(9:Int)=10);decide)) rfl rfl
   | true =>
    have e2:wfT M ⟨p,t,v,vm,sd,fi,se,ix,c.pc,wd,21,a,b,d,imm,c.setP ((c.pc+4)%65536)⟩=t0:=by unfold wfT;rw[hV];dsimp only;rw[if_pos hq]
    rw[e2]
    exact(doth_21t w D nf M c hok vm sd fi se a b d imm ha hb hi hlo h hV hq).mono fun e w' q=>Dn.mk q (mt (Or.inl rfl)) rfl rfl
 ·obtain ⟨S,hV⟩:=Option.ne_none_iff_exists'.1 (hg rfl)
  have hMS:M.S=S:=by unfold Mc.S;rw[hV];rfl
  exact(doth_22 w D nf M c hok vm sd fi se a b d imm ha hb hi hlo h hV).mono fun e w' q=>Dn.mk q ((mt (Or.inl rfl)).trans (by show(c.setP ((c.pc+4)%65536)).setR a (wi M.S).toNat=_;rw[hMS])) rfl (by show({ M with V:=some (ackS M.S) }:Mc)=_;rw[hMS])
 ·obtain ⟨S,hV⟩:=Option.ne_none_iff_exists'.1 (hg rfl)
  have hMS:M.S=S:=by unfold Mc.S;rw[hV];rfl
  have e1:ji nf M ⟨p,t,v,vm,sd,fi,se,ix,c.pc,wd,23,a,b,d,imm,c.setP ((c.pc+4)%65536)⟩=({ M with V:=some (endS S ((min (c.r b) 64:Nat):Int)) },⟨p,t,v,vm,sd,fi,se,ix,c.pc,wd,23,a,b,d,imm,c.setP ((c.pc+4)%65536)⟩,if endF S ((min (c.r b) 64:Nat):Int)=true then ⟨10,c.r b,c.pc,f0⟩ else t0):=by
   show(({ M with V:=some (endS M.S ((min (c.r b) 64:Nat):Int)) }:Mc),_,eoT M.S _)=_
   rw[hMS]
   rfl
  rw[e1]
  cases hq:endF S ((min (c.r b) 64:Nat):Int) with
  | false =>
   rw[if_neg (by decide)]
   exact(doth_23 w D nf M c hok vm sd fi se a b d imm ha hb hi hlo h hV hq).mono fun e w' q=>Dn.mk q (mt (Or.inl rfl)) rfl rfl
  | true =>
   rw[if_pos rfl]
   exact(doth_23t w D nf M c hok vm sd fi se a b d imm ha hb hi hlo h hV hq).mono fun e w' q=>Dn.mk q (mt (Or.inr rfl)) rfl rfl
 ·exact(doth_24 w D nf M c hok vm sd fi se a b d imm ha hb hi hlo h hG hvm hsd).mono fun e w' q=>Dn.mk q (mt (Or.inl rfl)) rfl rfl
 ·exact(doth_0 w D nf M c hok vm sd fi se a b d imm ha hb hi hlo h).mono fun e w' q=>Dn.mk q (mt (Or.inl rfl)) rfl rfl
theorem dtouched_any (w:World) (D:Bd) (nf:Nat) (M:Mc) (c:Cp) (X:Wk) (h:IsMd w D nf M) {n:Nat} (hm:M.few n) (hn:n<999990) (u:Und X c M) (ho:7≤X.op∧X.op≤10) :
  Calls pQ 35 #[D.a,.agg (cpA c),insX X,spcX X,U κ X.ix] w (Dn w D nf c (ji nf M X)):=by
 obtain ⟨p,t,v,vm,sd,fi,se,ix,pc,wd,op,a,b,d,imm,z⟩:=X
 obtain ⟨hz,hpc,ha,hb,hi,hok,hlo,hsd,hvm,hg⟩:=u
 dsimp only at hz hpc ha hb hi hsd hvm hg ho
 subst hz hpc
 obtain ⟨A,hA⟩:∃ A:Int,A=(((c.r b+imm)%65536:Nat):Int):=⟨_,rfl⟩
 have h7:op=7∨op=8∨op=9∨op=10:=by omega
 rcases h7 with rfl | rfl | rfl | rfl
 ·have hAd:(Wk.ad ⟨p,t,v,vm,sd,fi,se,ix,c.pc,wd,7,a,b,d,imm,c.setP ((c.pc+4)%65536)⟩)=A:=hA.symm
  by_cases hq:A%4=0
  ·by_cases hk:(rcF M nf vm sd fi se A 1).k=0
   ·have e2:dT M nf ⟨p,t,v,vm,sd,fi,se,ix,c.pc,wd,7,a,b,d,imm,c.setP ((c.pc+4)%65536)⟩ 4 1 2=t0:=by unfold dT;rw[hAd,if_neg (by omega),if_neg (by show ¬ (rcF M nf vm sd fi se A 1).k≠0;omega)]
    have e3:dM M nf ⟨p,t,v,vm,sd,fi,se,ix,c.pc,wd,7,a,b,d,imm,c.setP ((c.pc+4)%65536)⟩ 4 1=rcM M nf vm sd fi se A 1 ix:=by unfold dM;rw[hAd,if_neg (by omega)]
    have e4:dP M nf ⟨p,t,v,vm,sd,fi,se,ix,c.pc,wd,7,a,b,d,imm,c.setP ((c.pc+4)%65536)⟩ 4 1=rcP M nf vm sd fi se A 1:=by unfold dP;rw[hAd,if_neg (by omega)]
    have e5:ldX M nf ⟨p,t,v,vm,sd,fi,se,ix,c.pc,wd,7,a,b,d,imm,c.setP ((c.pc+4)%65536)⟩ 4=⟨p,t,v,vm,sd,fi,se,ix,c.pc,wd,7,a,b,d,imm,(c.setP ((c.pc+4)%65536)).setR a (j5 M.bs (rcP M nf vm sd fi se A 1) 4 nf).toNat⟩:=by unfold ldX;rw[e2,e4,if_neg (by decide)]
    have e1:ji nf M ⟨p,t,v,vm,sd,fi,se,ix,c.pc,wd,7,a,b,d,imm,c.setP ((c.pc+4)%65536)⟩=(rcM M nf vm sd fi se A 1 ix,⟨p,t,v,vm,sd,fi,se,ix,c.pc,wd,7,a,b,d,imm,(c.setP ((c.pc+4)%65536)).setR a (j5 M.bs (rcP M nf vm sd fi se A 1) 4 nf).toNat⟩,t0):=by
     show(dM M nf _ 4 1,ldX M nf _ 4,dT M nf _ 4 1 2)=_
     rw[e2,e3,e5]
    rw[e1]
    exact(dtch_ld7 w D nf M c hok vm sd fi se ix a b d imm ha hb hi hlo h A hA hm hn hq hk).mono fun e w' q=>Dn.mk q (mt (Or.inl rfl)) rfl rfl
   ·have e1:ji nf M ⟨p,t,v,vm,sd,fi,se,ix,c.pc,wd,7,a,b,d,imm,c.setP ((c.pc+4)%65536)⟩=(rcM M nf vm sd fi se A 1 ix,⟨p,t,v,vm,sd,fi,se,ix,c.pc,wd,7,a,b,d,imm,c.setP ((c.pc+4)%65536)⟩,⟨2,0,A,rcF M nf vm sd fi se A 1⟩):=by
     have e2:dT M nf ⟨p,t,v,vm,sd,fi,se,ix,c.pc,wd,7,a,b,d,imm,c.setP ((c.pc+4)%65536)⟩ 4 1 2=⟨2,0,A,rcF M nf vm sd fi se A 1⟩:=by unfold dT;rw[hAd,if_neg (by omega),if_pos hk]
     show(dM M nf _ 4 1,ldX M nf _ 4,dT M nf _ 4 1 2)=_
     unfold dM ldX
     rw[e2,hAd,if_neg (by omega),if_pos (show(2:Int)≠0 by decide)]
    rw[e1]
    exact(dtch_flt7 w D nf M c hok vm sd fi se ix a b d imm ha hb hi hlo h A hA hm hn hq hk).mono fun e w' q=>Dn.mk q (ms (by show ¬ ((2:Int)=0∨(2:Int)=10);decide)) rfl rfl
  ·have e1:ji nf M ⟨p,t,v,vm,sd,fi,se,ix,c.pc,wd,7,a,b,d,imm,c.setP ((c.pc+4)%65536)⟩=(M,⟨p,t,v,vm,sd,fi,se,ix,c.pc,wd,7,a,b,d,imm,c.setP ((c.pc+4)%65536)⟩,⟨4,0,A,f0⟩):=by
    have e2:dT M nf ⟨p,t,v,vm,sd,fi,se,ix,c.pc,wd,7,a,b,d,imm,c.setP ((c.pc+4)%65536)⟩ 4 1 2=⟨4,0,A,f0⟩:=by unfold dT;rw[hAd,if_pos hq]
    show(dM M nf _ 4 1,ldX M nf _ 4,dT M nf _ 4 1 2)=_
    unfold dM ldX
    rw[e2,hAd,if_pos hq,if_pos (show(4:Int)≠0 by decide)]
   rw[e1]
   exact(dtch_mis7 w D nf M c hok vm sd fi se ix a b d imm ha hb hi hlo h A hA hq).mono fun e w' q=>Dn.mk q (ms (by show ¬ ((4:Int)=0∨(4:Int)=10);decide)) rfl rfl
 ·have hAd:(Wk.ad ⟨p,t,v,vm,sd,fi,se,ix,c.pc,wd,8,a,b,d,imm,c.setP ((c.pc+4)%65536)⟩)=A:=hA.symm
  by_cases hq:A%4=0
  ·by_cases hk:(rcF M nf vm sd fi se A 2).k=0
   ·have e2:dT M nf ⟨p,t,v,vm,sd,fi,se,ix,c.pc,wd,8,a,b,d,imm,c.setP ((c.pc+4)%65536)⟩ 4 2 3=t0:=by unfold dT;rw[hAd,if_neg (by omega),if_neg (by show ¬ (rcF M nf vm sd fi se A 2).k≠0;omega)]
    have e3:dM M nf ⟨p,t,v,vm,sd,fi,se,ix,c.pc,wd,8,a,b,d,imm,c.setP ((c.pc+4)%65536)⟩ 4 2=rcM M nf vm sd fi se A 2 ix:=by unfold dM;rw[hAd,if_neg (by omega)]
    have e4:dP M nf ⟨p,t,v,vm,sd,fi,se,ix,c.pc,wd,8,a,b,d,imm,c.setP ((c.pc+4)%65536)⟩ 4 2=rcP M nf vm sd fi se A 2:=by unfold dP;rw[hAd,if_neg (by omega)]
    have e1:ji nf M ⟨p,t,v,vm,sd,fi,se,ix,c.pc,wd,8,a,b,d,imm,c.setP ((c.pc+4)%65536)⟩=({ rcM M nf vm sd fi se A 2 ix with bs:=kj M.bs (rcP M nf vm sd fi se A 2) 4 nf (c.r a) },⟨p,t,v,vm,sd,fi,se,ix,c.pc,wd,8,a,b,d,imm,c.setP ((c.pc+4)%65536)⟩,t0):=by
     show(stM M nf _ 4,_,dT M nf _ 4 2 3)=_
     unfold stM
     rw[e2,e3,e4,if_neg (by decide)]
     rfl
    rw[e1]
    exact(dtch_st8 w D nf M c hok vm sd fi se ix a b d imm ha hb hi hlo h A hA hm hn hq hk).mono fun e w' q=>Dn.mk q (mt (Or.inl rfl)) rfl rfl
   ·have e1:ji nf M ⟨p,t,v,vm,sd,fi,se,ix,c.pc,wd,8,a,b,d,imm,c.setP ((c.pc+4)%65536)⟩=(rcM M nf vm sd fi se A 2 ix,⟨p,t,v,vm,sd,fi,se,ix,c.pc,wd,8,a,b,d,imm,c.setP ((c.pc+4)%65536)⟩,⟨3,0,A,rcF M nf vm sd fi se A 2⟩):=by
     have e2:dT M nf ⟨p,t,v,vm,sd,fi,se,ix,c.pc,wd,8,a,b,d,imm,c.setP ((c.pc+4)%65536)⟩ 4 2 3=⟨3,0,A,rcF M nf vm sd fi se A 2⟩:=by unfold dT;rw[hAd,if_neg (by omega),if_pos hk]
     show(stM M nf _ 4,_,dT M nf _ 4 2 3)=_
     unfold stM dM
     rw[e2,hAd,if_pos (show(3:Int)≠0 by decide),if_neg (by omega)]
    rw[e1]
    exact(dtch_flt8 w D nf M c hok vm sd fi se ix a b d imm ha hb hi hlo h A hA hm hn hq hk).mono fun e w' q=>Dn.mk q (ms (by show ¬ ((3:Int)=0∨(3:Int)=10);decide)) rfl rfl
  ·have e1:ji nf M ⟨p,t,v,vm,sd,fi,se,ix,c.pc,wd,8,a,b,d,imm,c.setP ((c.pc+4)%65536)⟩=(M,⟨p,t,v,vm,sd,fi,se,ix,c.pc,wd,8,a,b,d,imm,c.setP ((c.pc+4)%65536)⟩,⟨4,0,A,f0⟩):=by
    have e2:dT M nf ⟨p,t,v,vm,sd,fi,se,ix,c.pc,wd,8,a,b,d,imm,c.setP ((c.pc+4)%65536)⟩ 4 2 3=⟨4,0,A,f0⟩:=by unfold dT;rw[hAd,if_pos hq]
    show(stM M nf _ 4,_,dT M nf _ 4 2 3)=_
    unfold stM dM
    rw[e2,hAd,if_pos (show(4:Int)≠0 by decide),if_pos hq]
   rw[e1]
   exact(dtch_mis8 w D nf M c hok vm sd fi se ix a b d imm ha hb hi hlo h A hA hq).mono fun e w' q=>Dn.mk q (ms (by show ¬ ((4:Int)=0∨(4:Int)=10);decide)) rfl rfl
 ·have hAd:(Wk.ad ⟨p,t,v,vm,sd,fi,se,ix,c.pc,wd,9,a,b,d,imm,c.setP ((c.pc+4)%65536)⟩)=A:=hA.symm
  by_cases hq:A%1=0
  ·by_cases hk:(rcF M nf vm sd fi se A 1).k=0
   ·have e2:dT M nf ⟨p,t,v,vm,sd,fi,se,ix,c.pc,wd,9,a,b,d,imm,c.setP ((c.pc+4)%65536)⟩ 1 1 2=t0:=by unfold dT;rw[hAd,if_neg (by omega),if_neg (by show ¬ (rcF M nf vm sd fi se A 1).k≠0;omega)]
    have e3:dM M nf ⟨p,t,v,vm,sd,fi,se,ix,c.pc,wd,9,a,b,d,imm,c.setP ((c.pc+4)%65536)⟩ 1 1=rcM M nf vm sd fi se A 1 ix:=by unfold dM;rw[hAd,if_neg (by omega)]
    have e4:dP M nf ⟨p,t,v,vm,sd,fi,se,ix,c.pc,wd,9,a,b,d,imm,c.setP ((c.pc+4)%65536)⟩ 1 1=rcP M nf vm sd fi se A 1:=by unfold dP;rw[hAd,if_neg (by omega)]
    have e5:ldX M nf ⟨p,t,v,vm,sd,fi,se,ix,c.pc,wd,9,a,b,d,imm,c.setP ((c.pc+4)%65536)⟩ 1=⟨p,t,v,vm,sd,fi,se,ix,c.pc,wd,9,a,b,d,imm,(c.setP ((c.pc+4)%65536)).setR a (j5 M.bs (rcP M nf vm sd fi se A 1) 1 nf).toNat⟩:=by unfold ldX;rw[e2,e4,if_neg (by decide)]
    have e1:ji nf M ⟨p,t,v,vm,sd,fi,se,ix,c.pc,wd,9,a,b,d,imm,c.setP ((c.pc+4)%65536)⟩=(rcM M nf vm sd fi se A 1 ix,⟨p,t,v,vm,sd,fi,se,ix,c.pc,wd,9,a,b,d,imm,(c.setP ((c.pc+4)%65536)).setR a (j5 M.bs (rcP M nf vm sd fi se A 1) 1 nf).toNat⟩,t0):=by
     show(dM M nf _ 1 1,ldX M nf _ 1,dT M nf _ 1 1 2)=_
     rw[e2,e3,e5]
    rw[e1]
    exact(dtch_ld9 w D nf M c hok vm sd fi se ix a b d imm ha hb hi hlo h A hA hm hn hq hk).mono fun e w' q=>Dn.mk q (mt (Or.inl rfl)) rfl rfl
   ·have e1:ji nf M ⟨p,t,v,vm,sd,fi,se,ix,c.pc,wd,9,a,b,d,imm,c.setP ((c.pc+4)%65536)⟩=(rcM M nf vm sd fi se A 1 ix,⟨p,t,v,vm,sd,fi,se,ix,c.pc,wd,9,a,b,d,imm,c.setP ((c.pc+4)%65536)⟩,⟨2,0,A,rcF M nf vm sd fi se A 1⟩):=by
     have e2:dT M nf ⟨p,t,v,vm,sd,fi,se,ix,c.pc,wd,9,a,b,d,imm,c.setP ((c.pc+4)%65536)⟩ 1 1 2=⟨2,0,A,rcF M nf vm sd fi se A 1⟩:=by unfold dT;rw[hAd,if_neg (by omega),if_pos hk]
     show(dM M nf _ 1 1,ldX M nf _ 1,dT M nf _ 1 1 2)=_
     unfold dM ldX
     rw[e2,hAd,if_neg (by omega),if_pos (show(2:Int)≠0 by decide)]
    rw[e1]
    exact(dtch_flt9 w D nf M c hok vm sd fi se ix a b d imm ha hb hi hlo h A hA hm hn hq hk).mono fun e w' q=>Dn.mk q (ms (by show ¬ ((2:Int)=0∨(2:Int)=10);decide)) rfl rfl
  ·omega
 ·have hAd:(Wk.ad ⟨p,t,v,vm,sd,fi,se,ix,c.pc,wd,10,a,b,d,imm,c.setP ((c.pc+4)%65536)⟩)=A:=hA.symm
  by_cases hq:A%1=0
  ·by_cases hk:(rcF M nf vm sd fi se A 2).k=0
   ·have e2:dT M nf ⟨p,t,v,vm,sd,fi,se,ix,c.pc,wd,10,a,b,d,imm,c.setP ((c.pc+4)%65536)⟩ 1 2 3=t0:=by unfold dT;rw[hAd,if_neg (by omega),if_neg (by show ¬ (rcF M nf vm sd fi se A 2).k≠0;omega)]
    have e3:dM M nf ⟨p,t,v,vm,sd,fi,se,ix,c.pc,wd,10,a,b,d,imm,c.setP ((c.pc+4)%65536)⟩ 1 2=rcM M nf vm sd fi se A 2 ix:=by unfold dM;rw[hAd,if_neg (by omega)]
    have e4:dP M nf ⟨p,t,v,vm,sd,fi,se,ix,c.pc,wd,10,a,b,d,imm,c.setP ((c.pc+4)%65536)⟩ 1 2=rcP M nf vm sd fi se A 2:=by unfold dP;rw[hAd,if_neg (by omega)]
    have e1:ji nf M ⟨p,t,v,vm,sd,fi,se,ix,c.pc,wd,10,a,b,d,imm,c.setP ((c.pc+4)%65536)⟩=({ rcM M nf vm sd fi se A 2 ix with bs:=kj M.bs (rcP M nf vm sd fi se A 2) 1 nf (c.r a) },⟨p,t,v,vm,sd,fi,se,ix,c.pc,wd,10,a,b,d,imm,c.setP ((c.pc+4)%65536)⟩,t0):=by
     show(stM M nf _ 1,_,dT M nf _ 1 2 3)=_
     unfold stM
     rw[e2,e3,e4,if_neg (by decide)]
     rfl
    rw[e1]
    exact(dtch_st10 w D nf M c hok vm sd fi se ix a b d imm ha hb hi hlo h A hA hm hn hq hk).mono fun e w' q=>Dn.mk q (mt (Or.inl rfl)) rfl rfl
   ·have e1:ji nf M ⟨p,t,v,vm,sd,fi,se,ix,c.pc,wd,10,a,b,d,imm,c.setP ((c.pc+4)%65536)⟩=(rcM M nf vm sd fi se A 2 ix,⟨p,t,v,vm,sd,fi,se,ix,c.pc,wd,10,a,b,d,imm,c.setP ((c.pc+4)%65536)⟩,⟨3,0,A,rcF M nf vm sd fi se A 2⟩):=by
     have e2:dT M nf ⟨p,t,v,vm,sd,fi,se,ix,c.pc,wd,10,a,b,d,imm,c.setP ((c.pc+4)%65536)⟩ 1 2 3=⟨3,0,A,rcF M nf vm sd fi se A 2⟩:=by unfold dT;rw[hAd,if_neg (by omega),if_pos hk]
     show(stM M nf _ 1,_,dT M nf _ 1 2 3)=_
     unfold stM dM
     rw[e2,hAd,if_pos (show(3:Int)≠0 by decide),if_neg (by omega)]
    rw[e1]
    exact(dtch_flt10 w D nf M c hok vm sd fi se ix a b d imm ha hb hi hlo h A hA hm hn hq hk).mono fun e w' q=>Dn.mk q (ms (by show ¬ ((3:Int)=0∨(3:Int)=10);decide)) rfl rfl
  ·omega
end Go.Proofs.YtibhbjbpodlpiaaGreat
