/-
  Contracts over the translation. No statement is proved here.
-/
import Derived.Test.YtibhbjbpodlpiaaGreatQJE
set_option maxRecDepth 100000
set_option maxHeartbeats 8000000
namespace Go.Proofs.YtibhbjbpodlpiaaGreat
open Go.RowKit
open Go.Value renaming int → U, bool → β, pointer → π, tuple → τ
open Go.IntKind renaming i64 → κ, u32 → μ
open Go.Obj renaming cells → ω
open Go.Ending renaming returned → ρ
open Go.Proofs.Tryz renaming prog → pQ
theorem rat_any (w:World) (b:Nat) (T:Nat→Ln) (fo mi v a p:Int) (h:gj w b T fo mi) (hG:kh T) :
  Calls pQ 140 #[π (some ⟨b,0,none⟩),U κ v,U κ a,U κ p] w fun e w' =>
   e=ρ (U κ (idx T v a p 8))∧Fr bg w w':=by
 go_enter Tryz.func140,Tryz.ntmps140
 go_wp2_with fail
 go_loopw [9] (fun i wr=>∃ k:Nat,k≤8∧i=U κ k∧Fr bg w wr∧gj wr b T fo mi∧Hid (∀ j,j<k→hit v a p (T j)=false)) (fun i _=>8-(intOf i).toNat)
 case atStart=>exact ⟨0,by omega,rfl,Fr.refl _ _,h,fun j hj=>by omega⟩
 case round =>
  clear h
  obtain ⟨k,hk,rfl,fk,h,HK⟩:=hrel
  by_cases hlt:k<8
  ·obtain ⟨c0,c1,c2,c3,c4⟩:=h.cells k hlt
   have he:=good_emp hG hlt
   have i1:0≤(k:Int)∧(k:Int)<8:=by omega
   cases t0:((T k).v != 0) with
   | false =>
    have hz:((T k).v == 0)=true:=by simpa using t0
    have hh:hit v a p (T k)=false:=by simp[hit,he,hz]
    clear hz he
    go_wp2_with fail
    go_roundw
    case rel=>exact ⟨k+1,by omega,by go_num,fk,h,fun j hj=>by
     rcases Nat.lt_or_ge j k with h' | h'
     ·exact HK.out j h'
     ·obtain rfl:j=k:=by omega
      exact hh⟩
    case measure=>simp[intOf];omega
   | true =>
   have he':emp (T k)=false:=by rw[he];simpa using t0
   clear he
   cases t1:((T k).v == v) with
   | false =>
    have hh:hit v a p (T k)=false:=by simp[hit,key,t1]
    go_wp2_with fail
    go_roundw
    case rel=>exact ⟨k+1,by omega,by go_num,fk,h,fun j hj=>by
     rcases Nat.lt_or_ge j k with h' | h'
     ·exact HK.out j h'
     ·obtain rfl:j=k:=by omega
      exact hh⟩
    case measure=>simp[intOf];omega
   | true =>
   cases t2:((T k).a == a) with
   | false =>
    have hh:hit v a p (T k)=false:=by simp[hit,key,t2]
    go_wp2_with fail
    go_roundw
    case rel=>exact ⟨k+1,by omega,by go_num,fk,h,fun j hj=>by
     rcases Nat.lt_or_ge j k with h' | h'
     ·exact HK.out j h'
     ·obtain rfl:j=k:=by omega
      exact hh⟩
    case measure=>simp[intOf];omega
   | true =>
   cases t3:((T k).p == p) with
   | false =>
    have hh:hit v a p (T k)=false:=by simp[hit,key,t3]
    go_wp2_with fail
    go_roundw
    case rel=>exact ⟨k+1,by omega,by go_num,fk,h,fun j hj=>by
     rcases Nat.lt_or_ge j k with h' | h'
     ·exact HK.out j h'
     ·obtain rfl:j=k:=by omega
      exact hh⟩
    case measure=>simp[intOf];omega
   | true =>
    have hh:hit v a p (T k)=true:=by simp[hit,key,he',t1,t2,t3]
    have hidx:idx T v a p 8=k:=idx_at HK.out hh 8 hlt
    go_wp2_with fail
    go_ret
    exact ⟨by rw[hidx];rfl,fk⟩
  ·obtain rfl:k=8:=by omega
   have hidx:idx T v a p 8=-1:=idx_none HK.out
   go_wp2_with fail
   go_ret
   exact ⟨by rw[hidx];rfl,fk⟩
theorem lb (w:World) (b:Nat) (T:Nat→Ln) (fo mi v a p:Int) (h:gj w b T fo mi) (hG:kh T) (hfo:0≤fo∧fo<1000000) (hmi:0≤mi∧mi<1000000) :
  Calls pQ 125 #[π (some ⟨b,0,none⟩),U κ v,U κ a,U κ p] w fun e w' =>
   e=ρ (τ #[U κ (ansF T (idx T v a p 8)),U κ (wb T (idx T v a p 8)),β (ansB (idx T v a p 8))])∧Fr (at' b) w w'∧gj w' b T (fo+lj (idx T v a p 8)) (mi+li (idx T v a p 8)):=by
 rcases xy T v a p 8 with ⟨hidx,_⟩ | ⟨k,hk,hidx,_,_⟩
 ·go_enter Tryz.func125,Tryz.ntmps125
  go_wp2_with fail
  refine(rat_any _ _ _ _ _ _ _ _ h hG).mono ?_
  rintro e w1 ⟨rfl,f1⟩
  replace h:=h.keep f1 (fun h=>h)
  replace f1:=f1.mono (T:=at' b) (fun _ _ h=>h.elim)
  have cf:=h.cfo
  have gf:=h.frozen 40
  have cm:=h.cmi
  have gm:=h.frozen 41
  rw[hidx]
  go_wp2_with fail
  go_ret3
  rw[hidx]
  refine ⟨rfl,f1.setCell (p:=⟨b,41,none⟩) (Or.inr rfl) _,?_⟩
  simpa [lj,li] using h.setMi (mi+1)
 ·have i1:0≤(k:Int)∧(k:Int)<8:=by omega
  have e0:decide ((k:Int)<0)=false:=decide_eq_false (by omega)
  go_enter Tryz.func125,Tryz.ntmps125
  go_wp2_with fail
  refine(rat_any _ _ _ _ _ _ _ _ h hG).mono ?_
  rintro e w1 ⟨rfl,f1⟩
  replace h:=h.keep f1 (fun h=>h)
  replace f1:=f1.mono (T:=at' b) (fun _ _ h=>h.elim)
  have cf:=h.cfo
  have gf:=h.frozen 40
  have cm:=h.cmi
  have gm:=h.frozen 41
  have hT2:=h.setFo (fo+1)
  obtain ⟨c0,c1,c2,c3,c4⟩:=hT2.cells k hk
  rw[hidx]
  go_wp2_with fail
  go_quiet (fail)
  go_wp2_with fail
  go_ret3
  rw[hidx]
  refine ⟨rfl,(f1.setCell (p:=⟨b,40,none⟩) (Or.inr rfl) _).trans ((bo _ _).mono (fun _ _ h=>h.elim)),?_⟩
  simp only[lj,li,e0,cond_false,Int.add_zero]
  exact hT2.keep (bo _ _) (fun h=>h)
theorem revict_in (w:World) (b:Nat) (T:Nat→Ln) (fo mi:Int) (h:gj w b T fo mi) (k:Nat) (hk:k<8) :
  Calls pQ 13 #[π (some ⟨b,0,none⟩),U κ (k:Int)] w fun e w'=>e=ρ (U κ 0)∧Fr (at' b) w w'∧gj w' b (upd T k zl) fo mi:=by
 have t1:decide ((k:Int)<0)=false:=decide_eq_false (by omega)
 have t2:decide ((8:Int)≤k)=false:=decide_eq_false (by omega)
 obtain ⟨c0,c1,c2,c3,c4⟩:=h.cells k hk
 have g0:=h.frozen (k*5)
 have g1:=h.frozen (k*5+1)
 have g2:=h.frozen (k*5+2)
 have g3:=h.frozen (k*5+3)
 have g4:=h.frozen (k*5+4)
 have i1:0≤(k:Int)∧(k:Int)<8:=by omega
 go_enter Tryz.func13,Tryz.ntmps13
 go_wp2_with fail
 go_ret
 exact ⟨rfl,kr (l:=zl) (Fr.refl _ _) (Or.inr rfl),h.setLine hk zl⟩
theorem revict_out (w:World) (p:Value) (i:Int) (hi:inB i 0 7=false) :
  Calls pQ 13 #[p,U κ i] w fun e w'=>e=ρ (U κ 1)∧w'=w:=by
 have hi':¬ (0≤i∧i≤7):=fun h=>by rw[inB_iff.mpr h] at hi;exact absurd hi (by decide)
 by_cases h0:i<0
 ·have t1:decide (i<0)=true:=by simpa using h0
  clear hi hi' h0
  go_enter Tryz.func13,Tryz.ntmps13
  go_wp2_with fail
  go_ret
  exact ⟨rfl,rfl⟩
 ·have t1:decide (i<0)=false:=by simpa using h0
  have t2:decide (8≤i)=true:=by simp;omega
  clear hi hi' h0
  go_enter Tryz.func13,Tryz.ntmps13
  go_wp2_with fail
  go_ret
  exact ⟨rfl,rfl⟩
theorem rfill_out (w:World) (p:Value) (i:Int) (x:Ln) (hi:inB i 0 7=false) :
  Calls pQ 127 #[p,U κ i,.agg #[U κ x.v,U κ x.a,U κ x.p,U κ x.f,U κ x.r]] w fun e w'=>e=ρ (U κ 1)∧Fr bg w w':=by
 have hi':¬ (0≤i∧i≤7):=fun h=>by rw[inB_iff.mpr h] at hi;exact absurd hi (by decide)
 by_cases h0:i<0
 ·have t1:decide (i<0)=true:=by simpa using h0
  clear hi hi' h0
  go_enter Tryz.func127,Tryz.ntmps127
  go_wp2_with fail
  go_ret
  exact ⟨rfl,(Fr.refl _ _).alloc _⟩
 ·have t1:decide (i<0)=false:=by simpa using h0
  have t2:decide (8≤i)=true:=by simp;omega
  clear hi hi' h0
  go_enter Tryz.func127,Tryz.ntmps127
  go_wp2_with fail
  go_ret
  exact ⟨rfl,(Fr.refl _ _).alloc _⟩
theorem rfill_bad (w:World) (p:Value) (i:Int) (x:Ln) (hi:inB i 0 7=true) (hx:jz x=false) :
  Calls pQ 127 #[p,U κ i,.agg #[U κ x.v,U κ x.a,U κ x.p,U κ x.f,U κ x.r]] w fun e w'=>e=ρ (U κ 30)∧Fr bg w w':=by
 have hi':=inB_iff.mp hi
 have t1:decide (i<0)=false:=decide_eq_false (by omega)
 have t2:decide (8≤i)=false:=decide_eq_false (by omega)
 have f0:=(Fr.refl bg w).alloc (ω #[U κ x.v,U κ x.a,U κ x.p,U κ x.f,U κ x.r] 85)
 clear hi hi'
 go_enter Tryz.func127,Tryz.ntmps127
 go_wp2_with fail
 refine(ry x _).mono ?_
 rintro e w2 ⟨rfl,f2⟩
 rw[hx]
 go_wp2_with fail
 go_ret
 exact ⟨rfl,f0.trans f2⟩
theorem wipe_one {T:Nat→Ln} {x:Ln} {i:Nat} (hU:vl T) (hi:i<8) (hh:hit x.v x.a x.p (T i)=true) (j:Nat) (hj:j<8):upd T i zl j=ts (fun l=>key l x) T j:=by
 have hh':emp (T i)=false∧key (T i) x=true:=by
  have:(!emp (T i) && key (T i) x)=true:=hh
  simpa using this
 by_cases hji:j=i
 ·subst hji
  simp[l7,ts,ll,hh']
 ·rw[jm _ _ hji]
  have hg:ll (fun l=>key l x) (T j)=false:=by
   cases hg:ll (fun l=>key l x) (T j) with
   | false=>rfl
   | true =>
    have hg':emp (T j)=false∧key (T j) x=true:=by simpa [ll] using hg
    refine absurd (hU i j hi hj hh'.1 hg'.1 ?_) (fun e=>hji e.symm)
    have a1:=key_iff.mp hh'.2
    have a2:=key_iff.mp hg'.2
    exact key_iff.mpr ⟨a1.1.trans a2.1.symm,a1.2.1.trans a2.2.1.symm,a1.2.2.trans a2.2.2.symm⟩
  simp[ts,hg]
theorem wipe_none {T:Nat→Ln} {x:Ln} (hn:∀ j,j<8→hit x.v x.a x.p (T j)=false) (j:Nat) (hj:j<8):T j=ts (fun l=>key l x) T j:=by
 have hg:ll (fun l=>key l x) (T j)=false:=hn j hj
 simp[ts,hg]
theorem upd_congr {T T':Nat→Ln} (k:Nat) (l:Ln) (h:∀ j,j<8→T j=T' j) (j:Nat) (hj:j<8):upd T k l j=upd T' k l j:=by
 by_cases hjk:j=k
 ·subst hjk;rw[l7,l7]
 ·rw[jm _ _ hjk,jm _ _ hjk,h j hj]
theorem rfill_ok (w:World) (b:Nat) (T:Nat→Ln) (fo mi:Int) (h:gj w b T fo mi) (hG:kh T) (hU:vl T) (k:Nat) (hk:k<8) (x:Ln) (hx:jz x=true) :
  Calls pQ 127 #[π (some ⟨b,0,none⟩),U κ (k:Int),.agg #[U κ x.v,U κ x.a,U κ x.p,U κ x.f,U κ x.r]] w fun e w' =>
   e=ρ (U κ 0)∧Fr (at' b) w w'∧gj w' b (filled T k x) fo mi:=by
 have t1:decide ((k:Int)<0)=false:=decide_eq_false (by omega)
 have t2:decide ((8:Int)≤k)=false:=decide_eq_false (by omega)
 have hb:=h.lt
 have hbk:b≠w.heap.size:=Nat.ne_of_lt hb
 have f0:=(Fr.refl (at' b) w).alloc (ω #[U κ x.v,U κ x.a,U κ x.p,U κ x.f,U κ x.r] 85)
 have r0:=ba w #[U κ x.v,U κ x.a,U κ x.p,U κ x.f,U κ x.r] 85
 have h0:=h.alloc (ω #[U κ x.v,U κ x.a,U κ x.p,U κ x.f,U κ x.r] 85)
 have i1:0≤(k:Int)∧(k:Int)<8:=by omega
 clear h hb
 rcases xy T x.v x.a x.p 8 with ⟨hidx,hn⟩ | ⟨i,hi,hidx,hh,_⟩
 ·go_enter Tryz.func127,Tryz.ntmps127
  go_wp2_with fail
  refine(ry x _).mono ?_
  rintro e w2 ⟨rfl,f2⟩
  rw[hx]
  replace r0:=r0.keep f2 (fun h=>h)
  replace h0:=h0.keep f2 (fun h=>h)
  replace f0:=f0.trans (f2.mono (T:=at' b) (fun _ _ h=>h.elim))
  clear f2
  obtain ⟨d0,d1,d2,d3,d4⟩:=row5 r0
  go_wp2_with fail
  refine(rat_any _ _ _ _ _ _ _ _ h0 hG).mono ?_
  rintro e w3 ⟨rfl,f3⟩
  rw[hidx]
  replace r0:=r0.keep f3 (fun h=>h)
  replace h0:=h0.keep f3 (fun h=>h)
  replace f0:=f0.trans (f3.mono (T:=at' b) (fun _ _ h=>h.elim))
  clear f3 d0 d1 d2 d3 d4
  obtain ⟨d0,d1,d2,d3,d4⟩:=row5 r0
  obtain ⟨c0,c1,c2,c3,c4⟩:=h0.cells k hk
  have g0:=h0.frozen (k*5)
  have g1:=h0.frozen (k*5+1)
  have g2:=h0.frozen (k*5+2)
  have g3:=h0.frozen (k*5+3)
  have g4:=h0.frozen (k*5+4)
  go_wp2_with fail
  go_region
  all_goals (go_wp2_with fail)
  all_goals go_ret
  all_goals exact ⟨rfl,(kr (l:=x) f0 (Or.inr rfl)).drew,((h0.setLine hk x).keep ((Fr.refl bg _).drew) (fun h=>h)).congr (upd_congr k x (wipe_none hn))⟩
 ·go_enter Tryz.func127,Tryz.ntmps127
  go_wp2_with fail
  refine(ry x _).mono ?_
  rintro e w2 ⟨rfl,f2⟩
  rw[hx]
  replace r0:=r0.keep f2 (fun h=>h)
  replace h0:=h0.keep f2 (fun h=>h)
  replace f0:=f0.trans (f2.mono (T:=at' b) (fun _ _ h=>h.elim))
  clear f2
  obtain ⟨d0,d1,d2,d3,d4⟩:=row5 r0
  go_wp2_with fail
  refine(rat_any _ _ _ _ _ _ _ _ h0 hG).mono ?_
  rintro e w3 ⟨rfl,f3⟩
  rw[hidx]
  replace r0:=r0.keep f3 (fun h=>h)
  replace h0:=h0.keep f3 (fun h=>h)
  replace f0:=f0.trans (f3.mono (T:=at' b) (fun _ _ h=>h.elim))
  clear f3 d0 d1 d2 d3 d4
  have i2:0≤(i:Int)∧(i:Int)<8:=by omega
  have h4:=h0.setLine hi zl
  have f4:=kr (l:=zl) (o:=i*5) f0 (Or.inr rfl)
  have r4:=(((((r0.setCell_other (p:=⟨b,i*5,none⟩) hbk (U κ zl.v)).setCell_other (p:=⟨b,i*5+1,none⟩) hbk (U κ zl.a)).setCell_other (p:=⟨b,i*5+2,none⟩) hbk (U κ zl.p)).setCell_other (p:=⟨b,i*5+3,none⟩) hbk (U κ zl.f)).setCell_other (p:=⟨b,i*5+4,none⟩) hbk (U κ zl.r))
  obtain ⟨c0,c1,c2,c3,c4⟩:=h0.cells i hi
  have g0:=h0.frozen (i*5)
  have g1:=h0.frozen (i*5+1)
  have g2:=h0.frozen (i*5+2)
  have g3:=h0.frozen (i*5+3)
  have g4:=h0.frozen (i*5+4)
  go_wp2_with fail
  change Code.wp _ _ _ _ (set5 w3 b (i*5) zl)
  change Row (set5 w3 b (i*5) zl) _ _ _ at r4
  clear c0 c1 c2 c3 c4 g0 g1 g2 g3 g4
  obtain ⟨w5,hw5⟩:∃ w5,w5=set5 w3 b (i*5) zl:=⟨_,rfl⟩
  rw[←hw5] at h4 f4 r4 ⊢
  clear hw5 h0 r0 f0
  obtain ⟨d0,d1,d2,d3,d4⟩:=row5 r4
  obtain ⟨c0,c1,c2,c3,c4⟩:=h4.cells k hk
  have g0:=h4.frozen (k*5)
  have g1:=h4.frozen (k*5+1)
  have g2:=h4.frozen (k*5+2)
  have g3:=h4.frozen (k*5+3)
  have g4:=h4.frozen (k*5+4)
  go_wp2_with fail
  go_region
  all_goals (go_wp2_with fail)
  all_goals go_ret
  all_goals exact ⟨rfl,(kr (l:=x) f4 (Or.inr rfl)).drew,((h4.setLine hk x).keep ((Fr.refl bg _).drew) (fun h=>h)).congr (upd_congr k x (wipe_one hU hi hh))⟩
def fillE (i:Int) (x:Ln):Int:=bif inB i 0 7 then(bif jz x then 0 else 30) else 1
def mx (T:Nat→Ln) (i:Int) (x:Ln):Nat→Ln:=bif inB i 0 7 && jz x then filled T i.toNat x else T
def evE (i:Int):Int:=bif inB i 0 7 then 0 else 1
def evT (T:Nat→Ln) (i:Int):Nat→Ln:=bif inB i 0 7 then upd T i.toNat zl else T
theorem inB_nat {i:Int} (h:inB i 0 7=true):∃ k:Nat,i=k∧k<8:=by
 have:=inB_iff.mp h
 exact ⟨i.toNat,by omega,by omega⟩
theorem fill_any (w:World) (b:Nat) (T:Nat→Ln) (fo mi:Int) (h:jj w b T fo mi) (i:Int) (x:Ln) :
  Calls pQ 160 #[π (some ⟨b,0,none⟩),U κ i,.agg #[U κ x.v,U κ x.a,U κ x.p,U κ x.f,U κ x.r]] w fun e w' =>
   e=ρ (U κ (fillE i x))∧Fr (at' b) w w'∧jj w' b (mx T i x) fo mi:=by
 cases hi:inB i 0 7 with
 | false =>
  have:=fill_out w (π (some ⟨b,0,none⟩)) i x hi
  refine this.mono ?_
  rintro e w' ⟨rfl,f⟩
  simp only[fillE,mx,hi,Bool.false_and,cond_false]
  exact ⟨trivial,f.mono (fun _ _ h=>h.elim),h.keep f (fun h=>h)⟩
 | true =>
  cases hx:jz x with
  | false =>
   have:=fill_bad w (π (some ⟨b,0,none⟩)) i x hi hx
   refine this.mono ?_
   rintro e w' ⟨rfl,f⟩
   simp only[fillE,mx,hi,hx,Bool.and_false,cond_false,cond_true]
   exact ⟨trivial,f.mono (fun _ _ h=>h.elim),h.keep f (fun h=>h)⟩
  | true =>
   obtain ⟨k,rfl,hk⟩:=inB_nat hi
   refine(fill_ok w b T fo mi h k hk x hx).mono ?_
   rintro e w' ⟨rfl,f,h'⟩
   simp only[fillE,mx,hi,hx,Bool.and_true,cond_true,Int.toNat_natCast]
   exact ⟨trivial,f,h'⟩
theorem w9 (w:World) (b:Nat) (T:Nat→Ln) (fo mi:Int) (h:gj w b T fo mi) (hG:kh T) (hU:vl T) (i:Int) (x:Ln) :
  Calls pQ 127 #[π (some ⟨b,0,none⟩),U κ i,.agg #[U κ x.v,U κ x.a,U κ x.p,U κ x.f,U κ x.r]] w fun e w' =>
   e=ρ (U κ (fillE i x))∧Fr (at' b) w w'∧gj w' b (mx T i x) fo mi:=by
 cases hi:inB i 0 7 with
 | false =>
  have:=rfill_out w (π (some ⟨b,0,none⟩)) i x hi
  refine this.mono ?_
  rintro e w' ⟨rfl,f⟩
  simp only[fillE,mx,hi,Bool.false_and,cond_false]
  exact ⟨trivial,f.mono (fun _ _ h=>h.elim),h.keep f (fun h=>h)⟩
 | true =>
  cases hx:jz x with
  | false =>
   have:=rfill_bad w (π (some ⟨b,0,none⟩)) i x hi hx
   refine this.mono ?_
   rintro e w' ⟨rfl,f⟩
   simp only[fillE,mx,hi,hx,Bool.and_false,cond_false,cond_true]
   exact ⟨trivial,f.mono (fun _ _ h=>h.elim),h.keep f (fun h=>h)⟩
  | true =>
   obtain ⟨k,rfl,hk⟩:=inB_nat hi
   refine(rfill_ok w b T fo mi h hG hU k hk x hx).mono ?_
   rintro e w' ⟨rfl,f,h'⟩
   simp only[fillE,mx,hi,hx,Bool.and_true,cond_true,Int.toNat_natCast]
   exact ⟨trivial,f,h'⟩
theorem evict_any (w:World) (b:Nat) (T:Nat→Ln) (fo mi:Int) (h:jj w b T fo mi) (i:Int) :
  Calls pQ 12 #[π (some ⟨b,0,none⟩),U κ i] w fun e w' =>
   e=ρ (U κ (evE i))∧Fr (at' b) w w'∧jj w' b (evT T i) fo mi:=by
 cases hi:inB i 0 7 with
 | false =>
  refine(evict_out w (π (some ⟨b,0,none⟩)) i hi).mono ?_
  rintro e w' ⟨rfl,rfl⟩
  simp only[evE,evT,hi,cond_false]
  exact ⟨trivial,Fr.refl _ _,h⟩
 | true =>
  obtain ⟨k,rfl,hk⟩:=inB_nat hi
  refine(evict_in w b T fo mi h k hk).mono ?_
  rintro e w' ⟨rfl,f,h'⟩
  simp only[evE,evT,hi,cond_true,Int.toNat_natCast]
  exact ⟨trivial,f,h'⟩
theorem revict_any (w:World) (b:Nat) (T:Nat→Ln) (fo mi:Int) (h:gj w b T fo mi) (i:Int) :
  Calls pQ 13 #[π (some ⟨b,0,none⟩),U κ i] w fun e w' =>
   e=ρ (U κ (evE i))∧Fr (at' b) w w'∧gj w' b (evT T i) fo mi:=by
 cases hi:inB i 0 7 with
 | false =>
  refine(revict_out w (π (some ⟨b,0,none⟩)) i hi).mono ?_
  rintro e w' ⟨rfl,rfl⟩
  simp only[evE,evT,hi,cond_false]
  exact ⟨trivial,Fr.refl _ _,h⟩
 | true =>
  obtain ⟨k,rfl,hk⟩:=inB_nat hi
  refine(revict_in w b T fo mi h k hk).mono ?_
  rintro e w' ⟨rfl,f,h'⟩
  simp only[evE,evT,hi,cond_true,Int.toNat_natCast]
  exact ⟨trivial,f,h'⟩
structure Pair (w:World) (B bt br:Nat) (T:Nat→Ln) (fo mi:Int):Prop where
 new1:B≤bt
 new2:B≤br
 ne:bt≠br
 tlb:jj w bt T fo mi
 ref:gj w br T fo mi
 good:kh T
 uniq:vl T
 fo0:0≤fo
 mi0:0≤mi
def DoneT (w:World) (B bt br:Nat) (T':Nat→Ln) (fo' mi':Int) (e:Ending) (w':World):Prop:=
 e=ρ (β true)∧Fr (two bt br) w w'∧Pair w' B bt br T' fo' mi'
theorem good_fill {T:Nat→Ln} (h:kh T) (i:Int) (x:Ln):kh (mx T i x):=by
 cases hi:inB i 0 7 <;> cases hx:jz x <;> simp[mx,hi,hx]
 ·exact h
 ·exact h
 ·exact h
 ·exact good_filled h _ hx
theorem uniq_fill {T:Nat→Ln} (h:vl T) (i:Int) (x:Ln):vl (mx T i x):=by
 cases hi:inB i 0 7 <;> cases hx:jz x <;> simp[mx,hi,hx]
 ·exact h
 ·exact h
 ·exact h
 ·exact uniq_filled h _ _
theorem more_bounds (i:Int):0≤lj i∧0≤li i∧lj i+li i=1:=by
 cases h:decide (i<0) <;> simp[lj,li,h]
def da (vm sp pg:Int):Ln→Bool:=fun l=>(decide (vm<0) || l.v == vm) && ((decide (sp<0) || l.a == sp) && (decide (pg<0) || l.p == pg))
theorem rflush_any (w:World) (b:Nat) (T:Nat→Ln) (fo mi vm sp pg:Int) (h:gj w b T fo mi) (hG:kh T) :
  Calls pQ 92 #[π (some ⟨b,0,none⟩),U κ vm,U κ sp,U κ pg] w fun e w' =>
   e=ρ (U κ (cnt (da vm sp pg) T 8))∧Fr (at' b) w w'∧gj w' b (ts (da vm sp pg) T) fo mi:=by
 go_enter Tryz.func92,Tryz.ntmps92
 go_wp2_with fail
 go_loopw [9,10] (fun n i wr=>∃ k:Nat,k≤8∧i=U κ k∧n=U κ (cnt (da vm sp pg) T k)∧Fr (at' b) w wr∧gj wr b (rh (da vm sp pg) T k) fo mi) (fun _ i _=>8-(intOf i).toNat)
 case atStart=>exact ⟨0,by omega,rfl,rfl,Fr.refl _ _,by rw[part_zero];exact h⟩
 case round =>
  clear h
  obtain ⟨k,hk,rfl,rfl,fk,hT⟩:=hrel
  by_cases hlt:k<8
  ·have he:=good_emp hG hlt
   have i1:0≤(k:Int)∧(k:Int)<8:=by omega
   have hcb:=cnt_bounds (da vm sp pg) T k
   have hbk:b≠wr.heap.size:=Nat.ne_of_lt hT.lt
   obtain ⟨c0,c1,c2,c3,c4⟩:=hT.cells k hlt
   rw[part_at] at c0 c1 c2 c3 c4
   have hT1:=hT.alloc (ω #[U κ (T k).v,U κ (T k).a,U κ (T k).p,U κ (T k).f,U κ (T k).r] 85)
   have rb:=ba wr #[U κ (T k).v,U κ (T k).a,U κ (T k).p,U κ (T k).f,U κ (T k).r] 85
   have f1:=fk.alloc (ω #[U κ (T k).v,U κ (T k).a,U κ (T k).p,U κ (T k).f,U κ (T k).r] 85)
   obtain ⟨d0,d1,d2,d3,d4⟩:=row5 rb
   have g0:=hT1.frozen (k*5)
   have g1:=hT1.frozen (k*5+1)
   have g2:=hT1.frozen (k*5+2)
   have g3:=hT1.frozen (k*5+3)
   have g4:=hT1.frozen (k*5+4)
   obtain ⟨x0,x1,x2,x3,x4⟩:=hT1.cells k hlt
   rw[part_at] at x0 x1 x2 x3 x4
   clear hT fk rb
   cases t0:((T k).v != 0) with
   | false =>
    have hz:((T k).v == 0)=true:=by simpa using t0
    have hgo:ll (da vm sp pg) (T k)=false:=by simp[ll,da,he,hz]
    clear hz he
    go_wp2_with fail
    go_roundw
    case rel=>exact ⟨k+1,by omega,by go_num,by simp[cnt,hgo],f1,by rw[jv hgo];exact hT1⟩
    case measure=>simp[intOf];omega
   | true =>
   have he':emp (T k)=false:=by rw[he];simpa using t0
   clear he
   cases a0:decide (vm<0) with
   | true =>
    cases a1:decide (sp<0) with
    | true =>
     cases a2:decide (pg<0) with
     | true =>
      have hgo:ll (da vm sp pg) (T k)=true:=by simp[ll,da,he',a0,a1,a2]
      have hcc:cnt (da vm sp pg) T (k+1)=cnt (da vm sp pg) T k+1:=by simp[cnt,hgo]
      go_wp2_with fail
      go_roundw
      case rel=>exact ⟨k+1,by omega,by go_num,by rw[hcc],kr (l:=zl) f1 (Or.inr rfl),by rw[ld hgo];exact hT1.setLine hlt zl⟩
      case measure=>simp[intOf];omega
     | false =>
      cases b2:((T k).p == pg) with
      | false =>
       have hgo:ll (da vm sp pg) (T k)=false:=by simp[ll,da,a2,b2]
       go_wp2_with fail
       go_roundw
       case rel=>exact ⟨k+1,by omega,by go_num,by simp[cnt,hgo],f1,by rw[jv hgo];exact hT1⟩
       case measure=>simp[intOf];omega
      | true =>
       have hgo:ll (da vm sp pg) (T k)=true:=by simp[ll,da,he',a0,a1,b2]
       have hcc:cnt (da vm sp pg) T (k+1)=cnt (da vm sp pg) T k+1:=by simp[cnt,hgo]
       go_wp2_with fail
       go_roundw
       case rel=>exact ⟨k+1,by omega,by go_num,by rw[hcc],kr (l:=zl) f1 (Or.inr rfl),by rw[ld hgo];exact hT1.setLine hlt zl⟩
       case measure=>simp[intOf];omega
    | false =>
     cases b1:((T k).a == sp) with
     | false =>
      have hgo:ll (da vm sp pg) (T k)=false:=by simp[ll,da,a1,b1]
      go_wp2_with fail
      go_roundw
      case rel=>exact ⟨k+1,by omega,by go_num,by simp[cnt,hgo],f1,by rw[jv hgo];exact hT1⟩
      case measure=>simp[intOf];omega
     | true =>
      cases a2:decide (pg<0) with
      | true =>
       have hgo:ll (da vm sp pg) (T k)=true:=by simp[ll,da,he',a0,b1,a2]
       have hcc:cnt (da vm sp pg) T (k+1)=cnt (da vm sp pg) T k+1:=by simp[cnt,hgo]
       go_wp2_with fail
       go_roundw
       case rel=>exact ⟨k+1,by omega,by go_num,by rw[hcc],kr (l:=zl) f1 (Or.inr rfl),by rw[ld hgo];exact hT1.setLine hlt zl⟩
       case measure=>simp[intOf];omega
      | false =>
       cases b2:((T k).p == pg) with
       | false =>
        have hgo:ll (da vm sp pg) (T k)=false:=by simp[ll,da,a2,b2]
        go_wp2_with fail
        go_roundw
        case rel=>exact ⟨k+1,by omega,by go_num,by simp[cnt,hgo],f1,by rw[jv hgo];exact hT1⟩
        case measure=>simp[intOf];omega
       | true =>
        have hgo:ll (da vm sp pg) (T k)=true:=by simp[ll,da,he',a0,b1,b2]
        have hcc:cnt (da vm sp pg) T (k+1)=cnt (da vm sp pg) T k+1:=by simp[cnt,hgo]
        go_wp2_with fail
        go_roundw
        case rel=>exact ⟨k+1,by omega,by go_num,by rw[hcc],kr (l:=zl) f1 (Or.inr rfl),by rw[ld hgo];exact hT1.setLine hlt zl⟩
        case measure=>simp[intOf];omega
   | false =>
    cases b0:((T k).v == vm) with
    | false =>
     have hgo:ll (da vm sp pg) (T k)=false:=by simp[ll,da,a0,b0]
     go_wp2_with fail
     go_roundw
     case rel=>exact ⟨k+1,by omega,by go_num,by simp[cnt,hgo],f1,by rw[jv hgo];exact hT1⟩
     case measure=>simp[intOf];omega
    | true =>
     cases a1:decide (sp<0) with
     | true =>
      cases a2:decide (pg<0) with
      | true =>
       have hgo:ll (da vm sp pg) (T k)=true:=by simp[ll,da,he',b0,a1,a2]
       have hcc:cnt (da vm sp pg) T (k+1)=cnt (da vm sp pg) T k+1:=by simp[cnt,hgo]
       go_wp2_with fail
       go_roundw
       case rel=>exact ⟨k+1,by omega,by go_num,by rw[hcc],kr (l:=zl) f1 (Or.inr rfl),by rw[ld hgo];exact hT1.setLine hlt zl⟩
       case measure=>simp[intOf];omega
      | false =>
       cases b2:((T k).p == pg) with
       | false =>
        have hgo:ll (da vm sp pg) (T k)=false:=by simp[ll,da,a2,b2]
        go_wp2_with fail
        go_roundw
        case rel=>exact ⟨k+1,by omega,by go_num,by simp[cnt,hgo],f1,by rw[jv hgo];exact hT1⟩
        case measure=>simp[intOf];omega
       | true =>
        have hgo:ll (da vm sp pg) (T k)=true:=by simp[ll,da,he',b0,a1,b2]
        have hcc:cnt (da vm sp pg) T (k+1)=cnt (da vm sp pg) T k+1:=by simp[cnt,hgo]
        go_wp2_with fail
        go_roundw
        case rel=>exact ⟨k+1,by omega,by go_num,by rw[hcc],kr (l:=zl) f1 (Or.inr rfl),by rw[ld hgo];exact hT1.setLine hlt zl⟩
        case measure=>simp[intOf];omega
     | false =>
      cases b1:((T k).a == sp) with
      | false =>
       have hgo:ll (da vm sp pg) (T k)=false:=by simp[ll,da,a1,b1]
       go_wp2_with fail
       go_roundw
       case rel=>exact ⟨k+1,by omega,by go_num,by simp[cnt,hgo],f1,by rw[jv hgo];exact hT1⟩
       case measure=>simp[intOf];omega
      | true =>
       cases a2:decide (pg<0) with
       | true =>
        have hgo:ll (da vm sp pg) (T k)=true:=by simp[ll,da,he',b0,b1,a2]
        have hcc:cnt (da vm sp pg) T (k+1)=cnt (da vm sp pg) T k+1:=by simp[cnt,hgo]
        go_wp2_with fail
        go_roundw
        case rel=>exact ⟨k+1,by omega,by go_num,by rw[hcc],kr (l:=zl) f1 (Or.inr rfl),by rw[ld hgo];exact hT1.setLine hlt zl⟩
        case measure=>simp[intOf];omega
       | false =>
        cases b2:((T k).p == pg) with
        | false =>
         have hgo:ll (da vm sp pg) (T k)=false:=by simp[ll,da,a2,b2]
         go_wp2_with fail
         go_roundw
         case rel=>exact ⟨k+1,by omega,by go_num,by simp[cnt,hgo],f1,by rw[jv hgo];exact hT1⟩
         case measure=>simp[intOf];omega
        | true =>
         have hgo:ll (da vm sp pg) (T k)=true:=by simp[ll,da,he',b0,b1,b2]
         have hcc:cnt (da vm sp pg) T (k+1)=cnt (da vm sp pg) T k+1:=by simp[cnt,hgo]
         go_wp2_with fail
         go_roundw
         case rel=>exact ⟨k+1,by omega,by go_num,by rw[hcc],kr (l:=zl) f1 (Or.inr rfl),by rw[ld hgo];exact hT1.setLine hlt zl⟩
         case measure=>simp[intOf];omega
  ·obtain rfl:k=8:=by omega
   go_wp2_with fail
   go_ret
   exact ⟨rfl,fk,hT.congr (part_all _ T)⟩
end Go.Proofs.YtibhbjbpodlpiaaGreat
