/-
  Contracts over the translation. No statement is proved here.
-/
import Derived.Test.YtibhbjbpodlpiaaGreatQCdH
set_option maxRecDepth 100000
set_option maxHeartbeats 8000000
namespace Go.Proofs.YtibhbjbpodlpiaaGreat
open Go.RowKit
open Go.Value renaming int → U, bool → β, pointer → π, tuple → τ
open Go.IntKind renaming i64 → κ, u32 → μ
open Go.Obj renaming cells → ω
open Go.Ending renaming returned → ρ
open Go.Proofs.Tryz renaming prog → pQ
def Vz (M:Mc) (vm:Int):Prop:=0≤vm∨∀ k,k<8→M.T k=zl
theorem vz_reach {M:Mc} {vm:Int} (h:Vz M vm) (nf:Nat) (sd fi se ad want ix:Int):Vz (rcM M nf vm sd fi se ad want ix) vm:=by
 rcases h with h | h
 ·exact Or.inl h
 ·by_cases hv:0≤vm
  ·exact Or.inl hv
  ·refine Or.inr fun k hk=>?_
   show l8 M.bs nf M.T vm sd fi se (ad / 64) want ix k=zl
   unfold l8
   split
   ·exact h k hk
   ·split
    ·unfold mx
     have:jz ⟨vm,sd,ad / 64,(cg M.bs nf fi se (ad / 64) want).fr,(cg M.bs nf fi se (ad / 64) want).ri⟩=false:=by
      unfold jz inB
      simp
      intro h1
      omega
     rw[this,Bool.and_false]
     exact h k hk
    ·exact h k hk
theorem spA_pos (v:Bool) (c:Cp):0≤spA v c:=by unfold spA;split <;> omega
theorem jmp_exec (nf:Nat) (M:Mc) (c:Cp) (X:Wk) (hz:X.z=c.setP ((c.pc+4)%65536)) (hp:X.pc=c.pc) (ho:11≤X.op∧X.op≤16):∃ Y:Wk,ji nf M X=(M,Y,t0)∧Y.z=jmp X.op c X.a X.b X.imm:=by
 obtain ⟨p,t,v,vm,sd,fi,se,ix,pc,wd,op,a,b,d,imm,z⟩:=X
 dsimp only at hz hp ho ⊢
 subst hz hp
 have h:op=11∨op=12∨op=13∨op=14∨op=15∨op=16:=by omega
 rcases h with rfl | rfl | rfl | rfl | rfl | rfl
 ·refine ⟨_,rfl,?_⟩
  show(if decide (c.r a=c.r b)=true then _ else _)=(if c.r a=c.r b then _ else _)
  by_cases h:c.r a=c.r b
  ·rw[if_pos (decide_eq_true h),if_pos h];rfl
  ·rw[if_neg (by simp[h]),if_neg h]
 ·refine ⟨_,rfl,?_⟩
  show(if (!decide (c.r a=c.r b))=true then _ else _)=(if c.r a=c.r b then _ else _)
  by_cases h:c.r a=c.r b
  ·rw[if_neg (by simp[h]),if_pos h]
  ·rw[if_pos (by simp[h]),if_neg h];rfl
 ·refine ⟨_,rfl,?_⟩
  show(if decide (c.r a<c.r b)=true then _ else _)=(if c.r a<c.r b then _ else _)
  by_cases h:c.r a<c.r b
  ·rw[if_pos (decide_eq_true h),if_pos h];rfl
  ·rw[if_neg (by simp[h]),if_neg h]
 ·exact ⟨_,rfl,rfl⟩
 ·exact ⟨_,rfl,rfl⟩
 ·exact ⟨_,rfl,rfl⟩
theorem rk_exec (nf:Nat) (M:Mc) (c:Cp) (X:Wk) (hz:X.z=c.setP ((c.pc+4)%65536)) (ho:1≤X.op∧X.op≤6):∃ Y:Wk,ji nf M X=(M,Y,t0)∧Y.z=(c.setR X.a (rkD X.op X.imm (c.r X.b) (c.r X.c))).setP ((c.pc+4)%65536):=by
 obtain ⟨p,t,v,vm,sd,fi,se,ix,pc,wd,op,a,b,d,imm,z⟩:=X
 dsimp only at hz ho ⊢
 subst hz
 have h:op=1∨op=2∨op=3∨op=4∨op=5∨op=6:=by omega
 rcases h with rfl | rfl | rfl | rfl | rfl | rfl
 ·rw[rkD_1];exact ⟨_,rfl,rfl⟩
 ·rw[rkD_2];exact ⟨_,rfl,rfl⟩
 ·rw[rkD_3];exact ⟨_,rfl,rfl⟩
 ·rw[rkD_4];exact ⟨_,rfl,rfl⟩
 ·rw[rkD_5];exact ⟨_,rfl,rfl⟩
 ·rw[rkD_6];exact ⟨_,rfl,rfl⟩
theorem dstep_any (w:World) (D:Bd) (nf:Nat) (M:Mc) (c:Cp) (hok:c.Ok) (vm se ix:Int) (h:IsMd w D nf M) {n:Nat} (hm:M.few n) (hn:n+1<999990) (hz:Vz M vm) :
  Calls pQ 7 #[D.a,.agg (cpA c),U κ vm,U κ se,U κ ix] w fun e w'=>e=ρ (τ #[.agg (cpA (dx nf M c vm se ix).2.1),.agg (trL (dx nf M c vm se ix).2.2)])∧Fr D.s w w'∧IsMd w' D nf (dx nf M c vm se ix).1:=by
 by_cases hb:c.bad
 ·have e:dx nf M c vm se ix=(M,c,⟨4,0,c.pc,f0⟩):=if_pos hb
  rw[e]
  by_cases hq:c.pc%4=0
  ·by_cases hq2:c.pc<0
   ·exact dstp_b2 w D nf M c h vm se ix hq hq2
   ·exact dstp_b3 w D nf M c h vm se ix hq hq2 (by unfold Cp.bad at hb;omega)
  ·exact dstp_b1 w D nf M c h vm se ix hq
 ·have e:dx nf M c vm se ix=((doR nf M (wkP M.V.isSome c vm se ix)).1,stC c (doR nf M (wkP M.V.isSome c vm se ix)),(doR nf M (wkP M.V.isSome c vm se ix)).2.2):=if_neg hb
  have hp:c.pc%4=0∧0≤c.pc∧c.pc≤65535:=by unfold Cp.bad at hb;omega
  rw[e]
  have hz2:=vz_reach hz nf (spA M.V.isSome c) (spF M.V.isSome c) se c.pc 4 ix
  have hsd0:=spA_pos M.V.isSome c
  have hX:wkP M.V.isSome c vm se ix=⟨0,0,none,vm,spA M.V.isSome c,spF M.V.isSome c,se,ix,c.pc,0,0,0,0,0,0,c.setP ((c.pc+4)%65536)⟩:=rfl
  obtain ⟨sd,hsd⟩:∃ sd,spA M.V.isSome c=sd:=⟨_,rfl⟩
  obtain ⟨fi,hfi⟩:∃ fi,spF M.V.isSome c=fi:=⟨_,rfl⟩
  rw[hsd,hfi] at hX hz2
  rw[hsd] at hsd0
  obtain ⟨X,hXX⟩:∃ X,wkP M.V.isSome c vm se ix=X:=⟨_,rfl⟩
  rw[hXX] at hX ⊢
  clear hXX e
  have hdM:doM nf M X=rcM M nf vm sd fi se c.pc 4 ix:=by rw[hX];rfl
  by_cases hk:(rcF M nf vm sd fi se c.pc 4).k=0
  ·obtain ⟨l1,l2⟩:=lu M.bs (rcP M nf vm sd fi se c.pc 4) 4 nf (by decide)
   obtain ⟨y,hy⟩:∃ y:Nat,j5 M.bs (rcP M nf vm sd fi se c.pc 4) 4 nf=(y:Int):=⟨(j5 M.bs (rcP M nf vm sd fi se c.pc 4) 4 nf).toNat,by omega⟩
   have hyl:y<4294967296:=by omega
   have hfX:fX nf M X={ X with wd:=y }:=by
    rw[hX]
    show { (⟨0,0,none,vm,sd,fi,se,ix,c.pc,0,0,0,0,0,0,c.setP ((c.pc+4)%65536)⟩:Wk) with wd:=(j5 M.bs (rcP M nf vm sd fi se c.pc 4) 4 nf).toNat }=_
    rw[hy,Int.toNat_natCast]
   have hnk:¬ (rcF M nf X.vm X.sd X.fi X.se X.pc 4).k≠0:=by rw[hX];exact fun q=>q hk
   have hpcX:X.pc=c.pc:=by rw[hX]
   cases hd:dp (y:Int) with
   | false =>
    have e1:doR nf M X=(rcM M nf vm sd fi se c.pc 4 ix,fX nf M X,⟨8,y,c.pc,f0⟩):=by
     unfold doR
     rw[if_neg hnk,if_pos (by rw[hfX];exact hd),hdM,hpcX,hfX]
    rw[e1,ms (R:=(rcM M nf vm sd fi se c.pc 4 ix,fX nf M X,⟨8,y,c.pc,f0⟩)) (by show ¬ ((8:Int)=0∨(8:Int)=10);decide)]
    exact dstp_u1 w D nf M c h vm se ix hok hm (by omega) hp sd fi hsd hfi hk y hyl hy hd
   | true =>
    obtain ⟨o,a,b,d,i,hw1,hw2,hw3,hw4,hw5,ho1,ho2,ha,hb2,hd2,hi⟩:=yl hd
    have hdX:dX (fX nf M X)=wkX c vm sd fi se ix y o a b d i:=by
     rw[hfX,hX]
     show(⟨0,0,none,vm,sd,fi,se,ix,c.pc,y,(dOp (y:Int)).toNat,(dA (y:Int)).toNat,(dB (y:Int)).toNat,(dC (y:Int)).toNat,(dI (y:Int)).toNat,c.setP ((c.pc+4)%65536)⟩:Wk)=_
     rw[hw1,hw2,hw3,hw4,hw5,Int.toNat_natCast,Int.toNat_natCast,Int.toNat_natCast,Int.toNat_natCast,Int.toNat_natCast]
     rfl
    have hnd:¬ dp ((fX nf M X).wd:Int)=false:=by
     rw[hfX]
     intro q
     rw[show(({ X with wd:=y }:Wk).wd:Int)=(y:Int) from rfl,hd] at q
     cases q
    by_cases hg:isG o=true∧M.V=none
    ·have e1:doR nf M X=(rcM M nf vm sd fi se c.pc 4 ix,dX (fX nf M X),⟨8,y,c.pc,f0⟩):=by
      unfold doR
      rw[if_neg hnk,if_neg hnd,if_pos (by rw[hdX];exact hg),hdM,hpcX,hfX]
     rw[e1,ms (R:=(rcM M nf vm sd fi se c.pc 4 ix,dX (fX nf M X),⟨8,y,c.pc,f0⟩)) (by show ¬ ((8:Int)=0∨(8:Int)=10);decide)]
     exact dstp_u2 w D nf M c h vm se ix hok hm (by omega) hp sd fi hsd hfi hk y hyl hy hd o a b d i hw1 hw2 hw3 hw4 hw5 hg.1 hg.2
    ·have e1:doR nf M X=ji nf (rcM M nf vm sd fi se c.pc 4 ix) (wkX c vm sd fi se ix y o a b d i):=by
      unfold doR
      rw[if_neg hnk,if_neg hnd,if_neg (by rw[hdX];exact hg),hdM,hdX]
     rw[e1]
     have hu:Und (wkX c vm sd fi se ix y o a b d i) c (rcM M nf vm sd fi se c.pc 4 ix):=⟨rfl,rfl,ha,hb2,hi,hok,hp.2,hsd0,hz2,fun g1 g2=>hg ⟨g1,g2⟩⟩
     clear hdX hfX hX hnk hnd e1 hdM hpcX
     by_cases r1:o≤6
     ·obtain ⟨Y,hY,hYz⟩:=rk_exec nf (rcM M nf vm sd fi se c.pc 4 ix) c (wkX c vm sd fi se ix y o a b d i) rfl ⟨ho1,r1⟩
      rw[hY,mt (R:=(rcM M nf vm sd fi se c.pc 4 ix,Y,t0)) (Or.inl rfl),hYz]
      exact dstp_r w D nf M c h vm se ix hok hm (by omega) hp sd fi hsd hfi hk y hyl hy hd o a b d i hw1 hw2 hw3 hw4 hw5 ⟨ho1,r1⟩ ha hb2 hd2 hi
     ·by_cases r2:o≤10
      ·exact dstp_t w D nf M c h vm se ix hok hm hn hp sd fi hsd hfi hk y hyl hy hd o a b d i hw1 hw2 hw3 hw4 hw5 ⟨by omega,r2⟩ hu
      ·by_cases r3:o≤16
       ·obtain ⟨Y,hY,hYz⟩:=jmp_exec nf (rcM M nf vm sd fi se c.pc 4 ix) c (wkX c vm sd fi se ix y o a b d i) rfl rfl ⟨show 11≤o by omega,r3⟩
        rw[hY,mt (R:=(rcM M nf vm sd fi se c.pc 4 ix,Y,t0)) (Or.inl rfl),hYz]
        exact dstp_j w D nf M c h vm se ix hok hm (by omega) hp sd fi hsd hfi hk y hyl hy hd o a b d i hw1 hw2 hw3 hw4 hw5 ⟨by omega,r3⟩ ha hb2 hi
       ·exact dstp_o w D nf M c h vm se ix hok hm (by omega) hp sd fi hsd hfi hk y hyl hy hd o a b d i hw1 hw2 hw3 hw4 hw5 ⟨by omega,ho2⟩ hu
  ·have e1:doR nf M X=(rcM M nf vm sd fi se c.pc 4 ix,X,⟨1,0,c.pc,rcF M nf vm sd fi se c.pc 4⟩):=by
    unfold doR
    rw[if_pos (by rw[hX];exact hk),hdM]
    rw[hX]
   rw[e1,ms (R:=(rcM M nf vm sd fi se c.pc 4 ix,X,⟨1,0,c.pc,rcF M nf vm sd fi se c.pc 4⟩)) (by show ¬ ((1:Int)=0∨(1:Int)=10);decide)]
   exact dstp_f w D nf M c h vm se ix hok hm (by omega) hp sd fi hsd hfi hk
theorem vz_T {M M':Mc} {vm:Int} (h:Vz M vm) (e:M'.T=M.T):Vz M' vm:=by
 unfold Vz at h ⊢
 rw[e]
 exact h
theorem vz_d {M:Mc} {vm:Int} {X:Wk} (hX:X.vm=vm) (h:Vz M vm) (nf:Nat) (size want:Int):Vz (dM M nf X size want) vm:=by
 unfold dM
 split
 ·exact h
 ·rw[hX];exact vz_reach h nf _ _ _ _ _ _
theorem vz_exec {M:Mc} {vm:Int} {X:Wk} (hX:X.vm=vm) (h:Vz M vm) (nf:Nat):Vz (ji nf M X).1 vm:=by
 have hs:∀ size,Vz (stM M nf X size) vm:=fun size=>by
  unfold stM
  split
  ·exact vz_d hX h nf _ _
  ·exact vz_T (vz_d hX h nf size 2) rfl
 unfold ji
 split
 all_goals first
  | exact h
  | exact vz_d hX h nf _ _
  | exact hs _
  | exact vz_T h rfl
  | skip
 ·show Vz (wrM M M.S X) vm
  unfold wrM
  split
  ·exact h
  ·split
   ·exact vz_T h rfl
   ·exact h
 ·rcases h with h | h
  ·exact Or.inl h
  ·refine Or.inr fun k hk=>?_
   show ts _ M.T k=zl
   unfold ts
   rw[h k hk]
   cases ll (fun l=>l.v == X.vm && l.a == X.sd) zl <;> rfl
theorem vz_step {M:Mc} {vm:Int} (h:Vz M vm) (nf:Nat) (c:Cp) (se ix:Int):Vz (dx nf M c vm se ix).1 vm:=by
 have hm:Vz (doM nf M (wkP M.V.isSome c vm se ix)) vm:=vz_reach h nf _ _ _ _ _ _
 unfold dx
 split
 ·exact h
 ·show Vz (doR nf M (wkP M.V.isSome c vm se ix)).1 vm
  unfold doR
  split
  ·exact hm
  ·split
   ·exact hm
   ·split
    ·exact hm
    ·exact vz_exec rfl hm nf
theorem vz_seq {M:Mc} {vm:Int} (h:Vz M vm) (nf:Nat) (c:Cp) (se:Int) (k:Nat):Vz (mz nf M c vm se k).1 vm:=by
 induction k with
 | zero=>exact h
 | succ k ih=>exact vz_step ih nf _ se _
theorem ok_exec {X:Wk} (nf:Nat) (M:Mc) (h:X.z.Ok) (hi:X.imm<65536):(ji nf M X).2.1.z.Ok:=by
 have hl:∀ size,size≤4→(ldX M nf X size).z.Ok:=fun size hs=>by
  unfold ldX
  split
  ·exact h
  ·have:=lu M.bs (dP M nf X size 1) size nf hs
   exact h.setR _ (by omega)
 unfold ji
 split
 ·exact h.setR _ (by omega)
 ·exact h.setR _ (gAdd_lt _ _)
 ·exact h.setR _ (gSub_lt _ _)
 ·exact h.setR _ (gAnd_lt _ _ (h.r _))
 ·exact h.setR _ (gXor_lt _ _ (h.r _) (h.r _))
 ·exact h.setR _ (gShl_lt _ _)
 ·exact hl 4 (by decide)
 ·exact h
 ·exact hl 1 (by decide)
 ·exact h
 ·show(if _ then _ else _:Cp).Ok
  split
  ·exact h.setP _
  ·exact h
 ·show(if _ then _ else _:Cp).Ok
  split
  ·exact h.setP _
  ·exact h
 ·show(if _ then _ else _:Cp).Ok
  split
  ·exact h.setP _
  ·exact h
 ·exact h.setP _
 ·exact(h.setR _ (by omega)).setP _
 ·exact h.setP _
 ·exact h
 ·exact h
 ·show(rdX X).z.Ok
  unfold rdX
  split
  ·exact h
  ·exact h.setR _ (h.s _)
 ·show(wrX X).z.Ok
  unfold wrX
  split
  ·exact h
  ·exact h.setS _ (h.r _)
 ·exact h
 ·have:=vk M.S
  exact h.setR _ (by omega)
 ·exact h
 ·exact h
 ·exact h
theorem ok_step {c:Cp} (h:c.Ok) (nf:Nat) (M:Mc) (vm se ix:Int):(dx nf M c vm se ix).2.1.Ok:=by
 unfold dx
 split
 ·exact h
 ·show(stC c (doR nf M (wkP M.V.isSome c vm se ix))).Ok
  unfold stC
  split
  ·unfold doR
   split
   ·exact h.setP _
   ·split
    ·exact h.setP _
    ·rename_i hd
     split
     ·exact h.setP _
     ·refine ok_exec nf _ (h.setP _) ?_
      have hd':dp ((fX nf M (wkP M.V.isSome c vm se ix)).wd:Int)=true:=by simpa using hd
      obtain ⟨o,a,b,d,i,_,_,_,_,hw5,_,_,_,_,_,hi⟩:=yl hd'
      show(dI ((fX nf M (wkP M.V.isSome c vm se ix)).wd:Int)).toNat<65536
      rw[hw5]
      omega
  ·exact h
theorem ok_seq {c:Cp} (h:c.Ok) (nf:Nat) (M:Mc) (vm se:Int) (k:Nat):(mz nf M c vm se k).2.Ok:=by
 induction k with
 | zero=>exact h
 | succ k ih=>exact ok_step ih nf _ vm se _
end Go.Proofs.YtibhbjbpodlpiaaGreat
