/-
  Contracts over the translation. No statement is proved here.
-/
import Derived.Test.YtibhbjbpodlpiaaGreatQJH
set_option maxRecDepth 100000
set_option maxHeartbeats 8000000
namespace Go.Proofs.YtibhbjbpodlpiaaGreat
open Go.RowKit
open Go.Value renaming int → U, bool → β, pointer → π, tuple → τ
open Go.IntKind renaming i64 → κ, u32 → μ
open Go.Obj renaming cells → ω
open Go.Ending renaming returned → ρ
open Go.Proofs.Tryz renaming prog → pQ
section
open Go.RowKit
structure One where
 off:Bool
 pe:Bool
 ac:Bool
 p:Int
 a:Int
 lv:Bool
 fl:Bool
def oneV (o:One):List Value:=[β o.off,β o.pe,β o.ac,U κ o.p,U κ o.a,β o.lv,β o.fl]
def updT (T:Nat→One) (k:Nat) (o:One):Nat→One:=fun j=>if j=k then o else T j
theorem ki (T:Nat→One) (k:Nat) (o:One):updT T k o k=o:=by simp[updT]
theorem updT_other (T:Nat→One) {k j:Nat} (o:One) (h:j≠k):updT T k o j=T j:=by simp[updT,h]
theorem pp (T:Nat→One) (k:Nat) (o o':One):updT (updT T k o) k o'=updT T k o':=by funext j;unfold updT;split <;> rfl
structure Sr (cs:Array Value) (T:Nat→One) (S:Vg):Prop where
 size:cs.size=453
 one:∀ j r,j<64→r<7→cs[j*7+r]? = (oneV (T j))[r]?
 lrs:cs[448]? = some (U κ S.lrs)
 mask:cs[449]? = some (U κ S.mask)
 inj:cs[450]? = some (U κ S.inj)
 ack:cs[451]? = some (U κ S.ack)
 en:cs[452]? = some (U κ S.en)
def IsRt (w:World) (b:Nat) (T:Nat→One) (S:Vg):Prop:=∃ cs,Row w b cs 120∧Sr cs T S
structure Rel (T:Nat→One) (S:Vg):Prop where
 off:∀ j,j<64→S.off j=(T j).off
 pe:∀ j,j<64→S.pe j=if (T j).pe then some ((T j).p,(T j).lv) else none
 ac:∀ j,j<64→S.ac j=if (T j).ac then some ((T j).a,(T j).fl) else none
structure IsRv (w:World) (b:Nat) (S:Vg):Prop where
 is:∃ T,IsRt w b T S∧Rel T S
 good:v_Good S
section
variable {w w':World} {b:Nat} {T:Nat→One} {S:Vg}
theorem IsRt.keep {X:Nat→Prop} (h:IsRt w b T S) (f:Fr X w w') (hs:¬ X b):IsRt w' b T S:=by obtain ⟨cs,hr,hc⟩:=h;exact ⟨cs,hr.keep f hs,hc⟩
theorem IsRv.keep {X:Nat→Prop} (h:IsRv w b S) (f:Fr X w w') (hs:¬ X b):IsRv w' b S:=by obtain ⟨⟨T,h1,h2⟩,h3⟩:=h;exact ⟨⟨T,h1.keep f hs,h2⟩,h3⟩
theorem IsRv.keep0 (h:IsRv w b S) (f:Fr bg w w'):IsRv w' b S:=h.keep f (fun h=>h)
theorem IsRv.lt (h:IsRv w b S) (k:Nat) (hk:at' b k):k<w.heap.size:=by obtain ⟨⟨T,⟨cs,hr,_⟩,_⟩,_⟩:=h;rw[show k=b from hk];exact hr.lt
theorem IsRt.frozen (h:IsRt w b T S) (i:Nat):w.frozen? ⟨b,i,none⟩=false:=by obtain ⟨cs,hr,_⟩:=h;exact hr.frozen i
theorem IsRt.cells (h:IsRt w b T S) {j:Nat} (hj:j<64):w.cell? ⟨b,j*7,none⟩=some (β (T j).off)∧w.cell? ⟨b,j*7+1,none⟩=some (β (T j).pe)∧w.cell? ⟨b,j*7+2,none⟩=some (β (T j).ac)∧w.cell? ⟨b,j*7+3,none⟩=some (U κ (T j).p)∧w.cell? ⟨b,j*7+4,none⟩=some (U κ (T j).a)∧w.cell? ⟨b,j*7+5,none⟩=some (β (T j).lv)∧w.cell? ⟨b,j*7+6,none⟩=some (β (T j).fl):=by
 obtain ⟨cs,hr,hc⟩:=h
 have q:=fun r hr'=>(hr.cell (j*7+r)).trans (hc.one j r hj hr')
 exact ⟨q 0 (by omega),q 1 (by omega),q 2 (by omega),q 3 (by omega),q 4 (by omega),q 5 (by omega),q 6 (by omega)⟩
theorem IsRt.nums (h:IsRt w b T S):w.cell? ⟨b,448,none⟩=some (U κ S.lrs)∧w.cell? ⟨b,449,none⟩=some (U κ S.mask)∧w.cell? ⟨b,450,none⟩=some (U κ S.inj)∧w.cell? ⟨b,451,none⟩=some (U κ S.ack)∧w.cell? ⟨b,452,none⟩=some (U κ S.en):=by
 obtain ⟨cs,hr,hc⟩:=h
 exact ⟨(hr.cell _).trans hc.lrs,(hr.cell _).trans hc.mask,(hr.cell _).trans hc.inj,(hr.cell _).trans hc.ack,(hr.cell _).trans hc.en⟩
theorem IsRt.setOne (h:IsRt w b T S) {k r:Nat} (hk:k<64) (hr:r<7) {v:Value} {o:One} (ho:oneV o=(oneV (T k)).set r v):IsRt (w.setCell ⟨b,k*7+r,none⟩ v) b (updT T k o) S:=by
 obtain ⟨cs,hw,c⟩:=h
 have hlt:k*7+r<cs.size:=by rw[c.size];omega
 have hl:∀ o:One,(oneV o).length=7:=fun _=>rfl
 refine ⟨_,hw.setCell _ v,by simpa using c.size,fun j s hj hs=>?_,?_,?_,?_,?_,?_⟩
 ·by_cases e:j=k
  ·subst e
   rw[ki,ho,List.getElem?_set,Array.getElem?_setIfInBounds]
   by_cases er:r=s
   ·subst er
    simp[hlt,hl,hs]
   ·rw[if_neg (by omega),if_neg er]
    exact c.one j s hj hs
  ·rw[updT_other _ _ e,Array.getElem?_setIfInBounds,if_neg (by omega)]
   exact c.one j s hj hs
 all_goals rw[Array.getElem?_setIfInBounds,if_neg (by omega)]
 ·exact c.lrs
 ·exact c.mask
 ·exact c.inj
 ·exact c.ack
 ·exact c.en
theorem IsRt.setMask (h:IsRt w b T S) (x:Int):IsRt (w.setCell ⟨b,449,none⟩ (U κ x)) b T { S with mask:=x }:=by
 obtain ⟨cs,hw,c⟩:=h
 refine ⟨_,hw.setCell _ _,by simpa using c.size,fun j s hj hs=>?_,?_,by simp[c.size],?_,?_,?_⟩
 all_goals rw[Array.getElem?_setIfInBounds,if_neg (by omega)]
 ·exact c.one j s hj hs
 ·exact c.lrs
 ·exact c.inj
 ·exact c.ack
 ·exact c.en
theorem IsRt.setInj (h:IsRt w b T S) (x:Int):IsRt (w.setCell ⟨b,450,none⟩ (U κ x)) b T { S with inj:=x }:=by
 obtain ⟨cs,hw,c⟩:=h
 refine ⟨_,hw.setCell _ _,by simpa using c.size,fun j s hj hs=>?_,?_,?_,by simp[c.size],?_,?_⟩
 all_goals rw[Array.getElem?_setIfInBounds,if_neg (by omega)]
 ·exact c.one j s hj hs
 ·exact c.lrs
 ·exact c.mask
 ·exact c.ack
 ·exact c.en
theorem IsRt.setAck (h:IsRt w b T S) (x:Int):IsRt (w.setCell ⟨b,451,none⟩ (U κ x)) b T { S with ack:=x }:=by
 obtain ⟨cs,hw,c⟩:=h
 refine ⟨_,hw.setCell _ _,by simpa using c.size,fun j s hj hs=>?_,?_,?_,?_,by simp[c.size],?_⟩
 all_goals rw[Array.getElem?_setIfInBounds,if_neg (by omega)]
 ·exact c.one j s hj hs
 ·exact c.lrs
 ·exact c.mask
 ·exact c.inj
 ·exact c.en
theorem IsRt.setEn (h:IsRt w b T S) (x:Int):IsRt (w.setCell ⟨b,452,none⟩ (U κ x)) b T { S with en:=x }:=by
 obtain ⟨cs,hw,c⟩:=h
 refine ⟨_,hw.setCell _ _,by simpa using c.size,fun j s hj hs=>?_,?_,?_,?_,?_,by simp[c.size]⟩
 all_goals rw[Array.getElem?_setIfInBounds,if_neg (by omega)]
 ·exact c.one j s hj hs
 ·exact c.lrs
 ·exact c.mask
 ·exact c.inj
 ·exact c.ack
theorem IsRt.nums_eq {S':Vg} (h:IsRt w b T S) (h1:S'.lrs=S.lrs) (h2:S'.mask=S.mask) (h3:S'.inj=S.inj) (h4:S'.ack=S.ack) (h5:S'.en=S.en):IsRt w b T S':=by
 obtain ⟨cs,hw,c⟩:=h
 exact ⟨cs,hw,c.size,c.one,by rw[h1];exact c.lrs,by rw[h2];exact c.mask,by rw[h3];exact c.inj,by rw[h4];exact c.ack,by rw[h5];exact c.en⟩
end
def Rch (w:World) (b:Nat) (S:Vg) (w':World):Prop:=Fr (at' b) w w'∧IsRv w' b S
theorem Rch.same {w w1:World} {b:Nat} {S:Vg} (h:IsRv w b S) (f:Fr bg w w1):Rch w b S w1:=⟨f.mono (fun _ _ h=>h.elim),h.keep0 f⟩
theorem Rel.line {T:Nat→One} {S S':Vg} (h:Rel T S) {k:Nat} {o:One} (hk:S'.off k=o.off∧S'.pe k=(if o.pe then some (o.p,o.lv) else none)∧S'.ac k=(if o.ac then some (o.a,o.fl) else none))
  (ho:∀ j,j≠k→S'.off j=S.off j∧S'.pe j=S.pe j∧S'.ac j=S.ac j):Rel (updT T k o) S':=by
 refine ⟨fun j hj=>?_,fun j hj=>?_,fun j hj=>?_⟩
 all_goals
  by_cases e:j=k
  ·subst e
   rw[ki]
   first | exact hk.1 | exact hk.2.1 | exact hk.2.2
  ·rw[updT_other _ _ e]
   first | (rw[(ho j e).1];exact h.off j hj) | (rw[(ho j e).2.1];exact h.pe j hj) | (rw[(ho j e).2.2];exact h.ac j hj)
theorem Rel.pe_some {T:Nat→One} {S:Vg} (h:Rel T S) {k:Nat} (hk:k<64):(T k).pe=(S.pe k).isSome:=by rw[h.pe k hk];cases (T k).pe <;> rfl
end
theorem xx (n:Int) (w:World):Calls pQ 40 #[U κ n] w fun e w'=>e=ρ (β (isI n))∧w'=w:=by
 have hi:isI n=(decide (0≤n) && decide (n<64)):=by
  unfold isI
  by_cases h:n≤63
  ·rw[decide_eq_true h,decide_eq_true (show n<64 by omega)]
  ·rw[decide_eq_false h,decide_eq_false (show ¬ n<64 by omega)]
 rw[hi]
 by_cases h:0≤n
 ·have t1:decide (0≤n)=true:=by simpa using h
  rw[t1]
  go_enter Tryz.func40,Tryz.ntmps40
  go_wp2
  go_ret
  exact ⟨rfl,rfl⟩
 ·have t1:decide (0≤n)=false:=by simpa using h
  rw[t1]
  go_enter Tryz.func40,Tryz.ntmps40
  go_wp2
  go_ret
  exact ⟨rfl,rfl⟩
def zone:One:=⟨false,false,false,0,0,false,false⟩
def rep:Nat→List Value
 | 0=>[]
 | n+1=>oneV zone ++ rep n
theorem xf:∀ n,(rep n).length=n*7
 | 0=>rfl
 | n+1=>by
  have:(oneV zone).length=7:=rfl
  simp only[rep,List.length_append,xf n,this]
  omega
theorem rep_at:∀ n j r,j<n→r<7→(rep n)[j*7+r]? = (oneV zone)[r]?
 | n+1,0,r,_,hr=>by
  have h7:(oneV zone).length=7:=rfl
  rw[Nat.zero_mul,Nat.zero_add]
  exact List.getElem?_append_left (by omega)
 | n+1,j+1,r,hj,hr=>by
  have h7:(oneV zone).length=7:=rfl
  simp only[rep]
  rw[List.getElem?_append_right (by omega),h7,show(j+1)*7+r-7=j*7+r by omega]
  exact rep_at n j r (by omega) hr
def ztail:List Value:=[U κ 0,U κ 0,U κ 0,U κ 0,U κ 0]
def zref:Array Value:=(rep 64 ++ ztail).toArray
theorem zero_ref (w:World):Sem.run pQ (zeroValue 120) w=.ok (.agg zref) w:=by kernel_rfl
theorem sq:zref.size=453:=by
 have:ztail.length=5:=rfl
 simp[zref,xf,this]
theorem zref_num (i:Nat) (h:448≤i) (h':i<453):zref[i]? = some (U κ 0):=by
 have e:zref[i]? = (rep 64 ++ ztail)[i]?:=by simp[zref]
 rw[e,List.getElem?_append_right (by rw[xf];omega),xf]
 have hh:i=448∨i=449∨i=450∨i=451∨i=452:=by omega
 rcases hh with rfl | rfl | rfl | rfl | rfl <;> rfl
theorem sr_zero (n:Int):Sr ((zref.setIfInBounds 448 (U κ n)).setIfInBounds 449 (U κ 256)) (fun _=>zone) (po n):=by
 refine ⟨by simp[sq],fun j r hj hr=>?_,?_,?_,?_,?_,?_⟩
 ·rw[Array.getElem?_setIfInBounds,if_neg (by omega),Array.getElem?_setIfInBounds,if_neg (by omega)]
  have e:zref[j*7+r]? = (rep 64 ++ ztail)[j*7+r]?:=by simp[zref]
  rw[e,List.getElem?_append_left (by rw[xf];omega)]
  exact rep_at 64 j r hj hr
 ·simp[sq,po]
 ·simp[sq,po]
 ·rw[Array.getElem?_setIfInBounds,if_neg (by omega),Array.getElem?_setIfInBounds,if_neg (by omega)];exact zref_num 450 (by omega) (by omega)
 ·rw[Array.getElem?_setIfInBounds,if_neg (by omega),Array.getElem?_setIfInBounds,if_neg (by omega)];exact zref_num 451 (by omega) (by omega)
 ·rw[Array.getElem?_setIfInBounds,if_neg (by omega),Array.getElem?_setIfInBounds,if_neg (by omega)];exact zref_num 452 (by omega) (by omega)
theorem v_rnew_ok (w:World) (n:Int) (hn:v_isR n=true):Calls pQ 26 #[U κ n] w fun e w'=>∃ b,e=ρ (τ #[π (some ⟨b,0,none⟩),U κ 0])∧w.heap.size≤b∧Fr bg w w'∧IsRv w' b (po n):=by
 have hr:=v_isR_iff.mp hn
 have u:decide (n<1)=false:=decide_eq_false (by omega)
 have u2:decide (16<n)=false:=decide_eq_false (by omega)
 have hz:=zero_ref
 have hs:=sr_zero n
 have hsz:=sq
 obtain ⟨Z,hZ⟩:∃ Z,Z=zref:=⟨_,rfl⟩
 rw[←hZ] at hz hs hsz
 have q1:(Z.size<449)=False:=by simp[hsz]
 have q2:(Z.size<450)=False:=by simp[hsz]
 have HS:Hid (Sr ((Z.setIfInBounds 448 (U κ n)).setIfInBounds 449 (U κ 256)) (fun _=>zone) (po n)):=hs
 have HG:Hid (v_Good (po n)):=wn hr
 clear hZ hs hsz hr
 go_enter Tryz.func26,Tryz.ntmps26
 go_wp2_with fail
 go_ret2
 exact ⟨w.heap.size,rfl,Nat.le_refl _,(Fr.refl bg w).alloc _,⟨fun _=>zone,⟨_,ba _ _ _,HS.out⟩,⟨fun _ _=>rfl,fun _ _=>rfl,fun _ _=>rfl⟩⟩,HG.out⟩
theorem rinject_any (w:World) (b:Nat) (S:Vg) (h:IsRv w b S) (n p:Int) (l:Bool) :
  Calls pQ 11 #[π (some ⟨b,0,none⟩),U κ n,U κ p,β l] w fun e w'=>e=ρ (U κ (injE S n p))∧Rch w b (injS S n p l) w':=by
 unfold injE injS
 cases hn:isI n with
 | false =>
  go_enter Tryz.func11,Tryz.ntmps11
  go_wp2_with fail
  refine(xx _ _).mono ?_
  rintro e w1 ⟨rfl,rfl⟩
  rw[hn]
  go_wp2_with fail
  go_ret
  exact ⟨rfl,Rch.same h (Fr.refl _ _)⟩
 | true =>
  obtain ⟨k,rfl,hk⟩:=isI_nat hn
  have i1:0≤(k:Int)∧(k:Int)<64:=by omega
  cases hp:v_isP p with
  | false =>
   have hcs:decide (p<0)=true∨(decide (p<0)=false∧decide (255<p)=true):=by
    by_cases h0:p<0
    ·exact Or.inl (decide_eq_true h0)
    ·refine Or.inr ⟨decide_eq_false h0,decide_eq_true ?_⟩
     rcases Int.lt_or_le 255 p with h' | h'
     ·exact h'
     ·rw[v_isP_iff.mpr ⟨by omega,h'⟩] at hp;cases hp
   rcases hcs with u1 | ⟨u1,u2⟩
   all_goals
    go_enter Tryz.func11,Tryz.ntmps11
    go_wp2_with fail
    refine(xx _ _).mono ?_
    rintro e w1 ⟨rfl,rfl⟩
    rw[hn]
    go_wp2_with fail
    go_ret
    exact ⟨rfl,Rch.same h (Fr.refl _ _)⟩
  | true =>
   have hpb:=v_isP_iff.mp hp
   have u1:decide (p<0)=false:=decide_eq_false (by omega)
   have u2:decide (255<p)=false:=decide_eq_false (by omega)
   obtain ⟨⟨T,hT,hR⟩,hg⟩:=h
   obtain ⟨c0,c1,c2,c3,c4,c5,c6⟩:=hT.cells hk
   rw[hR.pe_some hk] at c1
   show Calls _ _ _ _ fun e w'=>e=ρ (U κ (bif (S.pe k).isSome then 80 else 0))∧Rch w b (bif (S.pe k).isSome then S else { S with pe:=pj S.pe k (some (p,l)),inj:=inc S.inj }) w'
   cases hs:(S.pe k).isSome with
   | true =>
    rw[hs] at c1
    have HR:Hid (Rch w b S w):=⟨Fr.refl _ _,⟨T,hT,hR⟩,hg⟩
    clear hT hR hg c0 c2 c3 c4 c5 c6 hpb
    go_enter Tryz.func11,Tryz.ntmps11
    go_wp2_with fail
    refine(xx _ _).mono ?_
    rintro e w1 ⟨rfl,rfl⟩
    rw[hn]
    go_wp2_with fail
    go_ret
    exact ⟨rfl,HR.out⟩
   | false =>
    rw[hs] at c1
    have g1:=hT.frozen (k*7+1)
    have h1:=hT.setOne (r:=1) hk (by omega) (v:=β true) (o:={ T k with pe:=true }) rfl
    obtain ⟨_,_,_,d3,_⟩:=h1.cells hk
    rw[ki] at d3
    have g3:=h1.frozen (k*7+3)
    have h2:=h1.setOne (r:=3) hk (by omega) (v:=U κ p) (o:={ T k with pe:=true,p:=p }) (by rw[ki];rfl)
    rw[pp] at h2
    obtain ⟨_,_,_,_,_,d5,_⟩:=h2.cells hk
    rw[ki] at d5
    have g5:=h2.frozen (k*7+5)
    have h3:=h2.setOne (r:=5) hk (by omega) (v:=β l) (o:={ T k with pe:=true,p:=p,lv:=l }) (by rw[ki];rfl)
    rw[pp] at h3
    obtain ⟨_,_,e0,_,_⟩:=h3.nums
    have g6:=h3.frozen 450
    have h4:=h3.setInj (wrap64 (S.inj+1))
    have hrel:Rel (updT T k { T k with pe:=true,p:=p,lv:=l }) { S with pe:=pj S.pe k (some (p,l)),inj:=inc S.inj }:=
     hR.line ⟨hR.off k hk,by show pj S.pe k (some (p,l)) k=_;rw[km];rfl,hR.ac k hk⟩ (fun j hj=>⟨rfl,ju _ _ hj,rfl⟩)
    have hgood:v_Good { S with pe:=pj S.pe k (some (p,l)),inj:=inc S.inj }:=⟨mc hg.pe _ _ (fun q l' e=>by cases e;omega),hg.ac,hg.mask,hg.lrs⟩
    have HR:Hid (Rch w b { S with pe:=pj S.pe k (some (p,l)),inj:=inc S.inj } ((((w.setCell ⟨b,k*7+1,none⟩ (β true)).setCell ⟨b,k*7+3,none⟩ (U κ p)).setCell ⟨b,k*7+5,none⟩ (β l)).setCell ⟨b,450,none⟩ (U κ (wrap64 (S.inj+1))))):=
     ⟨cy _ b _ _ (cy _ b _ _ (cy _ b _ _ (cy _ b _ _ (Fr.refl _ _)))),⟨_,h4.nums_eq rfl rfl rfl rfl rfl,hrel⟩,hgood⟩
    clear hT hR hg h1 h2 h3 h4 hrel hgood c0 c2 c4 c6 hpb
    go_enter Tryz.func11,Tryz.ntmps11
    go_wp2_with fail
    refine(xx _ _).mono ?_
    rintro e w1 ⟨rfl,rfl⟩
    rw[hn]
    go_wp2_with fail
    go_ret
    exact ⟨rfl,HR.out⟩
theorem rmask_any (w:World) (b:Nat) (S:Vg) (h:IsRv w b S) (m:Int) :
  Calls pQ 88 #[π (some ⟨b,0,none⟩),U κ m] w fun e w'=>e=ρ (U κ (masE m))∧Rch w b (masS S m) w':=by
 unfold masE masS
 cases hn:isM m with
 | false =>
  have hcs:decide (m<0)=true∨(decide (m<0)=false∧decide (256<m)=true):=by
   by_cases h0:m<0
   ·exact Or.inl (decide_eq_true h0)
   ·refine Or.inr ⟨decide_eq_false h0,decide_eq_true ?_⟩
    rcases Int.lt_or_le 256 m with h' | h'
    ·exact h'
    ·rw[isM_iff.mpr ⟨by omega,h'⟩] at hn;cases hn
  rcases hcs with u1 | ⟨u1,u2⟩
  all_goals
   go_enter Tryz.func88,Tryz.ntmps88
   go_wp2_with fail
   go_ret
   exact ⟨rfl,Rch.same h (Fr.refl _ _)⟩
 | true =>
  have hm:=isM_iff.mp hn
  have u1:decide (m<0)=false:=decide_eq_false (by omega)
  have u2:decide (256<m)=false:=decide_eq_false (by omega)
  obtain ⟨⟨T,hT,hR⟩,hg⟩:=h
  obtain ⟨_,c1,_,_,_⟩:=hT.nums
  have g0:=hT.frozen 449
  have HR:Hid (Rch w b { S with mask:=m } (w.setCell ⟨b,449,none⟩ (U κ m))):=
   ⟨cy _ b _ _ (Fr.refl _ _),⟨_,hT.setMask m,⟨hR.off,hR.pe,hR.ac⟩⟩,⟨hg.pe,hg.ac,hm,hg.lrs⟩⟩
  clear hT hR hg hm
  go_enter Tryz.func88,Tryz.ntmps88
  go_wp2_with fail
  go_ret
  exact ⟨rfl,HR.out⟩
theorem rend_any (w:World) (b:Nat) (S:Vg) (h:IsRv w b S) (n:Int) :
  Calls pQ 91 #[π (some ⟨b,0,none⟩),U κ n] w fun e w'=>e=ρ (τ #[β (endF S n),U κ (endE S n)])∧Rch w b (endS S n) w':=by
 unfold endF endE endS
 cases hn:isI n with
 | false =>
  go_enter Tryz.func91,Tryz.ntmps91
  go_wp2_with fail
  refine(xx _ _).mono ?_
  rintro e w1 ⟨rfl,rfl⟩
  rw[hn]
  go_wp2_with fail
  go_ret2
  exact ⟨rfl,Rch.same h (Fr.refl _ _)⟩
 | true =>
  obtain ⟨k,rfl,hk⟩:=isI_nat hn
  have i1:0≤(k:Int)∧(k:Int)<64:=by omega
  rw[show((k:Int)).toNat=k by simp]
  obtain ⟨⟨T,hT,hR⟩,hg⟩:=h
  obtain ⟨c0,c1,c2,c3,c4,c5,c6⟩:=hT.cells hk
  have hac:=hR.ac k hk
  cases hs:(T k).ac with
  | false =>
   rw[hs] at c2 hac
   rw[hac]
   have HR:Hid (Rch w b S w):=⟨Fr.refl _ _,⟨T,hT,hR⟩,hg⟩
   clear hT hR hg c0 c1 c3 c4 c5 c6 hac
   go_enter Tryz.func91,Tryz.ntmps91
   go_wp2_with fail
   refine(xx _ _).mono ?_
   rintro e w1 ⟨rfl,rfl⟩
   rw[hn]
   go_wp2_with fail
   go_ret2
   exact ⟨rfl,HR.out⟩
  | true =>
   rw[hs] at c2 hac
   rw[hac]
   have g1:=hT.frozen (k*7+2)
   have h1:=hT.setOne (r:=2) hk (by omega) (v:=β false) (o:={ T k with ac:=false }) rfl
   obtain ⟨_,_,_,_,e0⟩:=h1.nums
   have g2:=h1.frozen 452
   have h2:=h1.setEn (wrap64 (S.en+1))
   obtain ⟨_,_,_,_,_,_,d6⟩:=h2.cells hk
   rw[ki] at d6
   have hrel:Rel (updT T k { T k with ac:=false }) { S with ac:=pj S.ac k none,en:=inc S.en }:=
    hR.line ⟨hR.off k hk,hR.pe k hk,by show pj S.ac k none k=_;rw[km];rfl⟩ (fun j hj=>⟨rfl,rfl,ju _ _ hj⟩)
   have hgood:v_Good { S with ac:=pj S.ac k none,en:=inc S.en }:=⟨hg.pe,mc hg.ac _ _ (fun q l' e=>by cases e),hg.mask,hg.lrs⟩
   have HR:Hid (Rch w b { S with ac:=pj S.ac k none,en:=inc S.en } ((w.setCell ⟨b,k*7+2,none⟩ (β false)).setCell ⟨b,452,none⟩ (U κ (wrap64 (S.en+1))))):=
    ⟨cy _ b _ _ (cy _ b _ _ (Fr.refl _ _)),⟨_,h2.nums_eq rfl rfl rfl rfl rfl,hrel⟩,hgood⟩
   generalize (T k).fl=fl at *
   clear hT hR hg h1 h2 hrel hgood c0 c1 c3 c4 c5 c6 hac
   go_enter Tryz.func91,Tryz.ntmps91
   go_wp2_with fail
   refine(xx _ _).mono ?_
   rintro e w1 ⟨rfl,rfl⟩
   rw[hn]
   go_wp2_with fail
   go_ret2
   exact ⟨rfl,HR.out⟩
end Go.Proofs.YtibhbjbpodlpiaaGreat
