/-
  Contracts over the translation. No statement is proved here.
-/
import Derived.Test.YtibhbjbpodlpiaaGreatQJQ
set_option maxRecDepth 100000
set_option maxHeartbeats 8000000
namespace Go.Proofs.YtibhbjbpodlpiaaGreat
open Go.RowKit
open Go.Value renaming int → U, bool → β, pointer → π, tuple → τ
open Go.IntKind renaming i64 → κ, u32 → μ
open Go.Obj renaming cells → ω
open Go.Ending renaming returned → ρ
open Go.Proofs.Tryz renaming prog → pQ
theorem rrunning_any (w:World) (b:Nat) (T:Nat→One) (S:Vg) (hT:IsRt w b T S) (hR:Rel T S) :
  Calls pQ 129 #[π (some ⟨b,0,none⟩)] w fun e w'=>e=ρ (U κ (run S))∧w'=w:=by
 have HT:Hid (IsRt w b T S∧Rel T S):=⟨hT,hR⟩
 clear hT hR
 go_enter Tryz.func129,Tryz.ntmps129
 go_wp2_with fail
 go_loopw [3,4] (fun l i wr=>∃ k:Nat,k≤64∧i=U κ k∧l=U κ (pw S k)∧w=wr) (fun _ i _=>64-(intOf i).toNat)
 case atStart=>exact ⟨0,by omega,rfl,rfl,rfl⟩
 case round =>
  obtain ⟨k,hk,rfl,rfl,rfl⟩:=hrel
  by_cases hlt:k<64
  ·obtain ⟨c0,c1,c2,c3,c4,c5,c6⟩:=HT.out.1.cells hlt
   have i1:0≤(k:Int)∧(k:Int)<64:=by omega
   have HS:Hid (pw S (k+1)=match S.ac k with
    | some (p,_)=>min (pw S k) p
    | none=>pw S k):=rfl
   have hac:=HT.out.2.ac k hlt
   clear c0 c1 c3 c5 c6
   cases ha:(T k).ac with
   | false =>
    rw[ha] at c2 hac
    have HQ:Hid (pw S (k+1)=pw S k):=by show _=_;rw[HS.out,hac];rfl
    generalize pw S k=r at *
    clear hac
    go_wp2_with fail
    go_roundw
    case rel=>exact ⟨k+1,by omega,by go_num,by rw[HQ.out],trivial⟩
    case measure=>simp[intOf];omega
   | true =>
    rw[ha] at c2 hac
    have HQ:Hid (pw S (k+1)=min (pw S k) (T k).a):=by show _=_;rw[HS.out,hac];rfl
    generalize (T k).a=a at *
    generalize pw S k=r at *
    clear hac
    by_cases h:a<r
    ·have u:decide (a<r)=true:=decide_eq_true h
     have HE:Hid (min r a=a):=by show _=_;omega
     clear h
     go_wp2_with fail
     go_roundw
     case rel=>exact ⟨k+1,by omega,by go_num,by rw[HQ.out,HE.out],trivial⟩
     case measure=>simp[intOf];omega
    ·have u:decide (a<r)=false:=decide_eq_false h
     have HE:Hid (min r a=r):=by show _=_;omega
     clear h
     go_wp2_with fail
     go_roundw
     case rel=>exact ⟨k+1,by omega,by go_num,by rw[HQ.out,HE.out],trivial⟩
     case measure=>simp[intOf];omega
  ·obtain rfl:k=64:=by omega
   go_wp2_with fail
   go_ret
   exact ⟨rfl,rfl⟩
def bI (o:Option Nat):Int:=match o with
 | some k=>(k:Int)
 | none=>-1
theorem best_lt (S:Vg) (bd:Int) (k q:Nat) (h:(kx S bd k).1=some q):q<k∧∃ l,S.pe q=some ((kx S bd k).2,l):=by
 obtain ⟨h1,h2,_⟩:=(qg S bd k).2.2 q h
 exact ⟨h1,(cand_is.mp h2).1⟩
theorem best_none (S:Vg) (bd:Int) (k:Nat) (h:(kx S bd k).1=none):(kx S bd k).2=bd:=(qg S bd k).2.1 h
theorem best_le (S:Vg) (bd:Int) (k:Nat):(kx S bd k).2≤bd:=by
 cases h:(kx S bd k).1 with
 | none=>rw[best_none S bd k h];omega
 | some q=>have:=((qg S bd k).2.2 q h).2.2.1;omega
theorem w8 (w:World) (b:Nat) (T:Nat→One) (S:Vg) (hT:IsRt w b T S) (hR:Rel T S) :
  Calls pQ 89 #[π (some ⟨b,0,none⟩)] w fun e w'=>e=ρ (τ #[U κ (nId (mw S)),β (mw S).isSome])∧Fr bg w w':=by
 have hrun:=rrunning_any w b T S hT hR
 have HT:Hid (IsRt w b T S∧Rel T S):=⟨hT,hR⟩
 clear hT hR
 go_enter Tryz.func89,Tryz.ntmps89
 go_wp2_with fail
 refine hrun.mono ?_
 rintro e w1 ⟨rfl,rfl⟩
 clear hrun
 obtain ⟨bd,hbd⟩:∃ bd,bd=min S.mask (run S):=⟨_,rfl⟩
 have HBD:Hid (bd=min S.mask (run S)):=hbd
 have HN:Hid (mw S=(kx S bd 64).1):=by show _=_;rw[hbd];rfl
 obtain ⟨rn,hrn⟩:∃ rn,rn=run S:=⟨_,rfl⟩
 rw[←hrn]
 have HRN:Hid (rn=run S):=hrn
 clear hbd hrn
 go_wp2_with fail
 go_loopw [5,6] (fun be i wr=>∃ k:Nat,k≤64∧i=U κ k∧be=U κ (bI (kx S bd k).1)∧Fr bg w1 wr) (fun _ i _=>64-(intOf i).toNat)
 case atStart=>exact ⟨0,by omega,rfl,rfl,Fr.refl _ _⟩
 case round =>
  obtain ⟨k,hk,rfl,rfl,fk⟩:=hrel
  by_cases hlt:k<64
  ·have hw:=HT.out.1.keep fk (fun h=>h)
   obtain ⟨c0,c1,c2,c3,c4,c5,c6⟩:=hw.cells hlt
   have fa:=fk.alloc (ω #[β (T k).off,β (T k).pe,β (T k).ac,U κ (T k).p,U κ (T k).a,β (T k).lv,β (T k).fl] 117)
   have ra:=ba wr #[β (T k).off,β (T k).pe,β (T k).ac,U κ (T k).p,U κ (T k).a,β (T k).lv,β (T k).fl] 117
   have ha:=HT.out.1.keep fa (fun h=>h)
   obtain ⟨_,m1,_,_,_⟩:=ha.nums
   have d0:=ra.cell 0
   have d1:=ra.cell 1
   have d2:=ra.cell 2
   have d3:=ra.cell 3
   have i1:0≤(k:Int)∧(k:Int)<64:=by omega
   have hpe:=HT.out.2.pe k hlt
   have hac:=HT.out.2.ac k hlt
   have hoff:=HT.out.2.off k hlt
   have HS:Hid (kx S bd (k+1)=match cand S k with
    | some p=>if p<(kx S bd k).2 then(some k,p) else kx S bd k
    | none=>kx S bd k):=rfl
   have HF:Hid (Fr bg w1 (wr.alloc (ω #[β (T k).off,β (T k).pe,β (T k).ac,U κ (T k).p,U κ (T k).a,β (T k).lv,β (T k).fl] 117))):=fa
   have hcand:cand S k=if (T k).pe && (!(T k).off && !(T k).ac) then some (T k).p else none:=by
    unfold cand
    rw[hpe,hac,hoff]
    cases (T k).pe <;> cases (T k).off <;> cases (T k).ac <;> rfl
   have HC:Hid (cand S k=if (T k).pe && (!(T k).off && !(T k).ac) then some (T k).p else none):=hcand
   clear hpe hac hoff hcand ra hw fk fa
   obtain ⟨B,hB⟩:∃ B,kx S bd k=B:=⟨_,rfl⟩
   have HBe:Hid (kx S bd k=B):=hB
   rw[hB]
   have hq:∀ q,B.1=some q→q<64∧(T q).p=B.2:=fun q hq=>by
    rw[←hB] at hq ⊢
    obtain ⟨h1,l,h2⟩:=best_lt S bd k q hq
    rw[HT.out.2.pe q (by omega)] at h2
    refine ⟨by omega,?_⟩
    cases h3:(T q).pe with
    | false=>rw[h3] at h2;cases h2
    | true=>rw[h3] at h2;simp at h2;exact h2.1
   have hBle:B.2≤bd:=by rw[←hB];exact best_le S bd k
   have hBn:B.1=none→B.2=bd:=fun h=>by rw[←hB] at h ⊢;exact best_none S bd k h
   clear hB
   generalize T k=tk at *
   obtain ⟨off,pe,ac,p,a,lv,fl⟩:=tk
   dsimp only at *
   obtain ⟨o,b2⟩:=B
   dsimp only at *
   have hreg:kx S bd (k+1)=(if (pe && (!off && !ac))=true∧p<b2 then(some k,p) else(o,b2)):=by
    rw[HS.out,HC.out,HBe.out]
    cases hc:(pe && (!off && !ac)) with
    | false=>simp
    | true=>simp
   have HR:Hid (kx S bd (k+1)=(if (pe && (!off && !ac))=true∧p<b2 then(some k,p) else(o,b2))):=hreg
   clear hreg HS HC
   by_cases hmay:pe=true∧off=false∧ac=false∧p<S.mask∧p<rn
   ·obtain ⟨rfl,rfl,rfl,h4,h5⟩:=hmay
    have hlt2:p<bd:=by rw[HBD.out,←HRN.out];omega
    have u4:decide (p<S.mask)=true:=decide_eq_true h4
    have u5:decide (p<rn)=true:=decide_eq_true h5
    cases o with
    | none =>
     have HQ:Hid (kx S bd (k+1)=(some k,p)):=by
      show _=_
      rw[HR.out,if_pos ⟨rfl,by have:=hBn rfl;omega⟩]
     clear hq hBle hBn hlt2 h4 h5 HR
     show Code.wp pQ _ _ _ _
     simp only[bI]
     go_wp2_with fail
     go_quiet (fail)
     go_wp2_with fail
     go_quiet (fail)
     go_wp2_with fail
     go_roundw
     case rel=>exact ⟨k+1,by omega,by go_num,by rw[HQ.out],HF.out.trans (bo _ _)⟩
     case measure=>simp[intOf];omega
    | some q =>
     obtain ⟨hq64,hqp⟩:=hq q rfl
     obtain ⟨_,_,_,e3,_⟩:=ha.cells hq64
     rw[hqp] at e3
     have i2:0≤(q:Int)∧(q:Int)<64:=by omega
     have u6:decide ((q:Int)<0)=false:=decide_eq_false (by omega)
     show Code.wp pQ _ _ _ _
     simp only[bI]
     by_cases hpb:p<b2
     ·have HQ:Hid (kx S bd (k+1)=(some k,p)):=by
       show _=_
       rw[HR.out,if_pos ⟨rfl,hpb⟩]
      have u7:decide (p<b2)=true:=decide_eq_true hpb
      clear hq hBle hBn hlt2 h4 h5 HR hpb hqp
      go_wp2_with fail
      go_quiet (fail)
      go_wp2_with fail
      go_quiet (fail)
      go_wp2_with fail
      go_roundw
      case rel=>exact ⟨k+1,by omega,by go_num,by rw[HQ.out],HF.out.trans (bo _ _)⟩
      case measure=>simp[intOf];omega
     ·have HQ:Hid (kx S bd (k+1)=(some q,b2)):=by
       show _=_
       rw[HR.out,if_neg (fun h=>hpb h.2)]
      have u7:decide (p<b2)=false:=decide_eq_false hpb
      clear hq hBle hBn hlt2 h4 h5 HR hpb hqp
      go_wp2_with fail
      go_quiet (fail)
      go_wp2_with fail
      go_quiet (fail)
      go_wp2_with fail
      go_roundw
      case rel=>exact ⟨k+1,by omega,by go_num,by rw[HQ.out],HF.out.trans (bo _ _)⟩
      case measure=>simp[intOf];omega
   ·have HQ:Hid (kx S bd (k+1)=(o,b2)):=by
     show _=_
     rw[HR.out,if_neg]
     rintro ⟨h1,h2⟩
     simp only[Bool.and_eq_true,Bool.not_eq_true'] at h1
     have hbb:=HBD.out
     have hrr:=HRN.out
     exact hmay ⟨h1.1,h1.2.1,h1.2.2,by omega,by omega⟩
    have hcs:pe=false∨(pe=true∧off=true)∨(pe=true∧off=false∧ac=true)∨(pe=true∧off=false∧ac=false∧decide (p<S.mask)=false)∨(pe=true∧off=false∧ac=false∧decide (p<S.mask)=true∧decide (p<rn)=false):=by
     by_cases h4:p<S.mask <;> by_cases h5:p<rn <;> cases pe <;> cases off <;> cases ac <;> simp[h4,h5] at hmay ⊢
    obtain ⟨bi,hbi⟩:∃ bi,bi=bI o:=⟨_,rfl⟩
    have HBI:Hid (bi=bI o):=hbi
    rw[←hbi]
    clear hq hBle hBn HR hmay hbi
    rcases hcs with rfl | ⟨rfl,rfl⟩ | ⟨rfl,rfl,rfl⟩ | ⟨rfl,rfl,rfl,u4⟩ | ⟨rfl,rfl,rfl,u4,u5⟩
    all_goals
     go_wp2_with fail
     go_quiet (fail)
     go_wp2_with fail
     go_quiet (fail)
     go_wp2_with fail
     go_roundw
     case rel=>exact ⟨k+1,by omega,by go_num,by rw[HQ.out,HBI.out],HF.out.trans (bo _ _)⟩
     case measure=>simp[intOf];omega
  ·obtain rfl:k=64:=by omega
   cases ho:(kx S bd 64).1 with
   | none =>
    have HO:Hid (mw S=none):=by show _=_;rw[HN.out,ho]
    show Code.wp pQ _ _ _ _
    simp only[bI]
    clear ho
    go_wp2_with fail
    go_ret2
    exact ⟨by rw[HO.out];rfl,fk⟩
   | some q =>
    have HO:Hid (mw S=some q):=by show _=_;rw[HN.out,ho]
    have u6:decide ((q:Int)<0)=false:=decide_eq_false (by omega)
    show Code.wp pQ _ _ _ _
    simp only[bI]
    clear ho
    go_wp2_with fail
    go_ret2
    exact ⟨by rw[HO.out];rfl,fk⟩
theorem IsRt.drew {w:World} {b:Nat} {T:Nat→One} {S:Vg} (h:IsRt w b T S):IsRt w.drew b T S:=h.keep (Fr.refl bg w).drew (fun h=>h)
theorem rack_any (w:World) (b:Nat) (S:Vg) (h:IsRv w b S) :
  Calls pQ 90 #[π (some ⟨b,0,none⟩)] w fun e w'=>e=ρ (U κ (wi S))∧Rch w b (ackS S) w':=by
 obtain ⟨⟨T,hT,hR⟩,hg⟩:=h
 have hn:=w8 w b T S hT hR
 unfold wi ackS
 cases ho:mw S with
 | none =>
  rw[ho] at hn
  replace hn:Calls pQ 89 #[π (some ⟨b,0,none⟩)] w fun e w'=>e=ρ (τ #[U κ 0,β false])∧Fr bg w w':=hn
  go_enter Tryz.func90,Tryz.ntmps90
  go_wp2_with fail
  refine hn.mono ?_
  rintro e w1 ⟨rfl,f1⟩
  go_wp2_with fail
  go_ret
  exact ⟨rfl,Rch.same ⟨⟨T,hT,hR⟩,hg⟩ f1⟩
 | some k =>
  have hk:=next_lt ho
  obtain ⟨p,l,hp,hac,-⟩:=wm ho
  rw[ho] at hn
  replace hn:Calls pQ 89 #[π (some ⟨b,0,none⟩)] w fun e w'=>e=ρ (τ #[U κ (k:Int),β true])∧Fr bg w w':=hn
  have hpk:(T k).pe=true∧(T k).p=p∧(T k).lv=l:=by
   have:=hR.pe k hk
   rw[hp] at this
   cases h1:(T k).pe with
   | false=>rw[h1] at this;cases this
   | true=>rw[h1] at this;simp at this;exact ⟨rfl,this.1.symm,this.2.symm⟩
  clear ho
  simp only[hp]
  have i1:0≤(k:Int)∧(k:Int)<64:=by omega
  go_enter Tryz.func90,Tryz.ntmps90
  go_wp2_with fail
  refine hn.mono ?_
  rintro e w1 ⟨rfl,f1⟩
  have h0:=hT.keep f1 (fun h=>h)
  have g1:=h0.frozen (k*7+1)
  have g2:=h0.frozen (k*7+2)
  have g3:=h0.frozen (k*7+4)
  have g4:=h0.frozen (k*7+6)
  have g5:=h0.frozen 451
  obtain ⟨c0,c1,c2,c3,c4,c5,c6⟩:=h0.cells hk
  obtain ⟨-,-,-,n4,-⟩:=h0.nums
  have h1:=h0.setOne (r:=1) hk (by omega) (v:=β false) (o:={ T k with pe:=false }) rfl
  have h2:=h1.setOne (r:=2) hk (by omega) (v:=β true) (o:={ T k with pe:=false,ac:=true }) (by rw[ki];rfl)
  rw[pp] at h2
  have h3:=h2.setOne (r:=4) hk (by omega) (v:=U κ (T k).p) (o:={ T k with pe:=false,ac:=true,a:=(T k).p }) (by rw[ki];rfl)
  rw[pp] at h3
  have h4:=h3.setOne (r:=6) hk (by omega) (v:=β (T k).lv) (o:={ T k with pe:=false,ac:=true,a:=(T k).p,fl:=(T k).lv }) (by rw[ki];rfl)
  rw[pp] at h4
  have h5:=h4.setAck (wrap64 (S.ack+1))
  have s1:(k*7+1=451)=False:=by simp;omega
  have s2:(k*7+2=451)=False:=by simp;omega
  have s3:(k*7+4=451)=False:=by simp;omega
  have s4:(k*7+6=451)=False:=by simp;omega
  have hrel:Rel (updT T k { T k with pe:=false,ac:=true,a:=(T k).p,fl:=(T k).lv }) { S with pe:=pj S.pe k none,ac:=pj S.ac k (some (p,l)),ack:=inc S.ack }:=
   hR.line ⟨hR.off k hk,by show pj S.pe k none k=_;rw[km];rfl,by show pj S.ac k (some (p,l)) k=_;rw[km,hpk.2.1,hpk.2.2];rfl⟩ (fun j hj=>⟨rfl,ju _ _ hj,ju _ _ hj⟩)
  have hgood:v_Good { S with pe:=pj S.pe k none,ac:=pj S.ac k (some (p,l)),ack:=inc S.ack }:=⟨mc hg.pe _ _ (fun q l' e=>by cases e),mc hg.ac _ _ (fun q l' e=>by cases e;exact hg.pe k p l hp),hg.mask,hg.lrs⟩
  have HR:Hid (Rch w b { S with pe:=pj S.pe k none,ac:=pj S.ac k (some (p,l)),ack:=inc S.ack } (((((w1.setCell ⟨b,k*7+1,none⟩ (β false)).setCell ⟨b,k*7+2,none⟩ (β true)).setCell ⟨b,k*7+4,none⟩ (U κ (T k).p)).setCell ⟨b,k*7+6,none⟩ (β (T k).lv)).setCell ⟨b,451,none⟩ (U κ (wrap64 (S.ack+1)))).drew.drew):=
   ⟨(cy _ b _ _ (cy _ b _ _ (cy _ b _ _ (cy _ b _ _ (cy _ b _ _ (f1.mono (fun _ _ h=>h.elim))))))).drew.drew,⟨_,h5.drew.drew.nums_eq rfl rfl rfl rfl rfl,hrel⟩,hgood⟩
  generalize (T k).p=tp at *
  generalize (T k).lv=tl at *
  generalize (T k).a=ta at *
  generalize (T k).fl=tf at *
  clear hn hT hR hg h0 h1 h2 h3 h4 h5 hrel hgood f1 hpk hp hac
  go_wp2_with fail
  go_region
  all_goals (go_wp2_with fail)
  all_goals go_region
  all_goals (go_wp2_with fail)
  all_goals go_ret
  all_goals exact ⟨rfl,HR.out⟩
end Go.Proofs.YtibhbjbpodlpiaaGreat
