/-
  Contracts over the translation. No statement is proved here.
-/
import Derived.Deep.CutBlock
import Derived.Test.YtibhbjbpodlpiaaGreatQJQ
import Derived.Test.YtibhbjbpodlpiaaGreatQJV
set_option maxRecDepth 100000
set_option maxHeartbeats 8000000
namespace Go.Proofs.YtibhbjbpodlpiaaGreat
open Go.RowKit
open Go.Value renaming int → U, bool → β, pointer → π, tuple → τ
open Go.IntKind renaming i64 → κ, u32 → μ
open Go.Obj renaming cells → ω
open Go.Ending renaming returned → ρ
open Go.Proofs.Tryz renaming prog → pQ
structure Pu where (t i:Int) (v l:Bool) (r f:Int)
structure Wo where (a:Int) (w:Nat)
structure PuIs (w:World) (b o:Nat) (q:Pu):Prop where
 c0:w.cell? ⟨b,o,none⟩=some (U κ q.t)
 c1:w.cell? ⟨b,o+1,none⟩=some (U κ q.i)
 c2:w.cell? ⟨b,o+2,none⟩=some (β q.v)
 c3:w.cell? ⟨b,o+3,none⟩=some (β q.l)
 c4:w.cell? ⟨b,o+4,none⟩=some (U κ q.r)
 c5:w.cell? ⟨b,o+5,none⟩=some (U κ q.f)
structure WoIs (w:World) (b o:Nat) (q:Wo):Prop where
 c0:w.cell? ⟨b,o,none⟩=some (U κ q.a)
 c1:w.cell? ⟨b,o+1,none⟩=some (U μ (q.w:Int))
 small:q.a≤9223372036854775807
 word:q.w<4294967296
theorem PuIs.keep {S:Nat→Prop} {w w':World} {b o:Nat} {q:Pu} (h:PuIs w b o q) (k:Fr S w w') (hs:¬ S b):PuIs w' b o q:=
 ⟨cd k h.c0 hs,cd k h.c1 hs,cd k h.c2 hs,cd k h.c3 hs,cd k h.c4 hs,cd k h.c5 hs⟩
theorem WoIs.keep {S:Nat→Prop} {w w':World} {b o:Nat} {q:Wo} (h:WoIs w b o q) (k:Fr S w w') (hs:¬ S b):WoIs w' b o q:=
 ⟨cd k h.c0 hs,cd k h.c1 hs,h.small,h.word⟩
def Pus (w:World) (a0:Option Addr) (len:Nat) (P:Nat→Pu):Prop:=∀ k,k<len→∃ b o,a0=some ⟨b,o,none⟩∧PuIs w b (o+k*6) (P k)
def Wos (w:World) (a0:Option Addr) (len:Nat) (Q:Nat→Wo):Prop:=∀ k,k<len→∃ b o,a0=some ⟨b,o,none⟩∧WoIs w b (o+k*2) (Q k)
theorem Pus.keep {w w':World} {a0:Option Addr} {len:Nat} {P:Nat→Pu} (h:Pus w a0 len P) (f:Fr bg w w'):Pus w' a0 len P:=fun k hk=>by
 obtain ⟨b,o,e,q⟩:=h k hk
 exact ⟨b,o,e,q.keep f (fun h=>h)⟩
theorem Wos.keep {w w':World} {a0:Option Addr} {len:Nat} {P:Nat→Wo} (h:Wos w a0 len P) (f:Fr bg w w'):Wos w' a0 len P:=fun k hk=>by
 obtain ⟨b,o,e,q⟩:=h k hk
 exact ⟨b,o,e,q.keep f (fun h=>h)⟩
def pB (P:Nat→Pu):Nat→List UInt8
 | 0=>List.replicate (64*16) 0
 | n+1=>putB (pB P n) (P n).t (P n).i 16 (P n).v (P n).l (P n).r (P n).f
def wB (bs:List UInt8) (Q:Nat→Wo):Nat→List UInt8
 | 0=>bs
 | n+1=>kj (wB bs Q n) (Q n).a 4 16 (Q n).w
structure Bo where
 B:Bm
 pr:Nat
 br:Nat
 bu:Nat
 vr:Option Nat
def M0 (bs:List UInt8) (g:Bool):Mc:=⟨bs,fun _=>zl,0,0,if g=true then some (po 4) else none⟩
theorem M0_few (bs:List UInt8) (g:Bool):(M0 bs g).few 0:=⟨Int.le_refl 0,Int.le_refl 0,by show(0:Int)+0≤0;omega,good_zero,uniq_zero⟩
def IsRvO (w:World):Option Nat→Option Vg→Prop
 | some b,some S=>IsRv w b S
 | none,none=>True
 | _,_=>False
structure IsBo (w:World) (n:Nat) (O:Bo) (M:Mc):Prop where
 m:IsMc w O.B 16 M
 r:IsRef w O.pr O.br 16 M.bs
 t:gj w O.bu M.T M.fo M.mi
 v:IsRvO w O.vr M.V
 new:∀ k,(O.B.s k∨k=O.B.p)→n≤k
 newr:n≤O.pr∧n≤O.br∧n≤O.bu∧∀ b,O.vr=some b→n≤b
 ap:∀ k,(O.B.s k∨k=O.B.p)→k≠O.pr∧k≠O.br∧k≠O.bu∧∀ b,O.vr=some b→k≠b
 apr:O.pr≠O.bu∧O.br≠O.bu∧∀ b,O.vr=some b→b≠O.pr∧b≠O.br∧b≠O.bu
def Bo.a (O:Bo):Array Value:=#[π (some ⟨O.B.p,0,none⟩),π (some ⟨O.B.bt,0,none⟩),gu (O.B.v.map Bk.b),π (some ⟨O.pr,0,none⟩),π (some ⟨O.bu,0,none⟩),gu O.vr]
theorem wy:(Tryz.prog.info? 44).map (·.size)=some 6:=by kernel_rfl
theorem ret_both {fn:Func} {p q:Tmp} {tmps:Array Value} {g:Nat} {cs:Array Value} {w:World} (h:fn.results=#[.cell p 44,.tmp q]) (hp:tmps.getD p undef=π (some ⟨g,0,none⟩)) (hr:Row w g cs 44) (hs:cs.size=6) :
  (results fn tmps).run pQ w=.ok (τ #[.agg cs,tmps.getD q undef]) w:=by
 have hl:(loadVar 44 ⟨g,0,none⟩).run pQ w=.ok (.agg cs) w:=by
  have:=run_loadVar_mid (P:=pQ) w g 0 44 cs.toList _ (jn hr) Tryz.underlying44 rfl (by rw[Array.length_toList,hs];exact wy)
  simpa using this
 have hp':tmps[p]?.getD undef=π (some ⟨g,0,none⟩):=by simpa using hp
 simp only[results,h]
 simp[Result.andThen,hp',asAddr,hl]
theorem vt {w:World} {g:Nat} {c0 c1 c2 c3 c4 c5:Value} {t:TypeId} (h:Row w g #[c0,c1,c2,c3,c4,c5] t):w.cell? ⟨g,0,none⟩=some c0∧w.cell? ⟨g,1,none⟩=some c1∧w.cell? ⟨g,2,none⟩=some c2∧w.cell? ⟨g,3,none⟩=some c3∧w.cell? ⟨g,4,none⟩=some c4∧w.cell? ⟨g,5,none⟩=some c5:=⟨h.cell 0,h.cell 1,h.cell 2,h.cell 3,h.cell 4,h.cell 5⟩
theorem frozen6 {w:World} {g:Nat} {cs:Array Value} {t:TypeId} (h:Row w g cs t):w.frozen? ⟨g,0,none⟩=false∧w.frozen? ⟨g,1,none⟩=false∧w.frozen? ⟨g,2,none⟩=false∧w.frozen? ⟨g,3,none⟩=false∧w.frozen? ⟨g,4,none⟩=false∧w.frozen? ⟨g,5,none⟩=false:=⟨h.frozen 0,h.frozen 1,h.frozen 2,h.frozen 3,h.frozen 4,h.frozen 5⟩
theorem row_set6 {w:World} {g:Nat} {c0 c1 c2 c3 c4 c5:Value} {t:TypeId} (h:Row w g #[c0,c1,c2,c3,c4,c5] t) (v0 v1 v2 v3 v4 v5:Value):Row ((((((w.setCell ⟨g,0,none⟩ v0).setCell ⟨g,1,none⟩ v1).setCell ⟨g,2,none⟩ v2).setCell ⟨g,3,none⟩ v3).setCell ⟨g,4,none⟩ v4).setCell ⟨g,5,none⟩ v5) g #[v0,v1,v2,v3,v4,v5] t:=by
 simpa using ((((((h.setCell 0 v0).setCell 1 v1).setCell 2 v2).setCell 3 v3).setCell 4 v4).setCell 5 v5)
theorem fr_own6 (w:World) (g:Nat) (v0 v1 v2 v3 v4 v5:Value):Fr (at' g) w ((((((w.setCell ⟨g,0,none⟩ v0).setCell ⟨g,1,none⟩ v1).setCell ⟨g,2,none⟩ v2).setCell ⟨g,3,none⟩ v3).setCell ⟨g,4,none⟩ v4).setCell ⟨g,5,none⟩ v5):=cy w g 5 _ (cy w g 4 _ (cy w g 3 _ (cy w g 2 _ (cy w g 1 _ (cy w g 0 _ (Fr.refl _ w))))))
theorem made_any (w:World) (a0 a1:Option Addr) (len cap len1 cap1:Nat) (g:Bool) (vm se:Int) (P:Nat→Pu) (Q:Nat→Wo) (hl:len≤9223372036854775807) (hl1:len1≤9223372036854775807) (hP:Pus w a0 len P) (hQ:Wos w a1 len1 Q) :
  Calls pQ 5 #[.agg #[.slice a0 len cap,.slice a1 len1 cap1,β g,U κ vm,U κ se]] w fun e w'=>∃ O:Bo,e=ρ (τ #[.agg O.a,β true])∧Fr bg w w'∧IsBo w' w.heap.size O (M0 (wB (pB P (min len 100)) Q (min len1 300)) g):=by
 have rx:=(ba w #[.slice a0 len cap,.slice a1 len1 cap1,β g,U κ vm,U κ se] 25).alloc (ω #[π none,π none,π none,π none,π none,π none] 44)
 have rr:=dq (W:=w.alloc (ω #[.slice a0 len cap,.slice a1 len1 cap1,β g,U κ vm,U κ se] 25)) (n:=w.heap.size+1) (cs:=#[π none,π none,π none,π none,π none,π none]) (t:=44) (by simp)
 have f0:=((Fr.refl bg w).alloc (ω #[.slice a0 len cap,.slice a1 len1 cap1,β g,U κ vm,U κ se] 25)).alloc (ω #[π none,π none,π none,π none,π none,π none] 44)
 obtain ⟨v0,hv0⟩:∃ v0,v0=(w.alloc (ω #[.slice a0 len cap,.slice a1 len1 cap1,β g,U κ vm,U κ se] 25)).alloc (ω #[π none,π none,π none,π none,π none,π none] 44):=⟨_,rfl⟩
 have hsz:Hid (v0.heap.size=w.heap.size+2):=by show _=_;rw[hv0];simp
 rw[←hv0] at rx rr f0
 have HP:Hid (Pus w a0 len P):=hP
 have HQ:Hid (Wos w a1 len1 Q):=hQ
 clear hP hQ
 go_enter Tryz.func5,Tryz.ntmps5
 go_wp2_with fail
 rw[←hv0]
 clear hv0
 obtain ⟨gx,hgx⟩:∃ q,q=w.heap.size:=⟨_,rfl⟩
 obtain ⟨gr,hgr⟩:∃ q,q=w.heap.size+1:=⟨_,rfl⟩
 rw[←hgr] at rr ⊢
 rw[←hgx] at rx ⊢
 have HG:Hid (gx=w.heap.size∧gr=w.heap.size+1):=⟨hgx,hgr⟩
 clear hgx hgr
 refine(new_any _ _ ⟨by decide,by decide⟩).mono ?_
 rintro e w1 ⟨rfl,f1,r1⟩
 go_wp2_with fail
 refine(rnew_any _ _ ⟨by decide,by decide⟩).mono ?_
 rintro e w2 ⟨rfl,f2,r2⟩
 have TW0:Twin w2 v0.heap.size (v0.heap.size+1) v0.heap.size (w1.heap.size+1) w1.heap.size 16 (List.replicate (64*16) 0):=twin_new (Nat.le_refl _) r1 f2 r2
 have HW:Hid (v0.heap.size+1<w1.heap.size):=r1.head.lt
 replace f1:=f1.trans f2
 replace f0:=f0.trans f1
 replace rx:=rx.keep f1 (fun h=>h)
 replace rr:=rr.keep f1 (fun h=>h)
 clear f1 f2 r1 r2
 obtain ⟨pm,hpm⟩:∃ q,q=v0.heap.size+1:=⟨_,rfl⟩
 obtain ⟨bm,hbm⟩:∃ q,q=v0.heap.size:=⟨_,rfl⟩
 obtain ⟨pr,hpr⟩:∃ q,q=w1.heap.size+1:=⟨_,rfl⟩
 obtain ⟨br,hbr⟩:∃ q,q=w1.heap.size:=⟨_,rfl⟩
 rw[←hpm,←hpr,←hbr,←hbm] at TW0
 rw[←hpm,←hpr]
 have HA:Hid (w.heap.size+2≤bm∧bm<pm∧pm<br∧br<pr):=(show _∧_ from ⟨by have:=hsz.out;omega,by omega,by have:=HW.out;omega,by omega⟩)
 clear hpm hbm hpr hbr HW hsz
 replace TW0:Twin w2 w.heap.size pm bm pr br 16 (List.replicate (64*16) 0):=⟨TW0.ram,TW0.ref,TW0.d1,TW0.d2,TW0.d3,by have:=HA.out;omega⟩
 go_wp2_with fail
 refine(tnew_any _).mono ?_
 rintro e w3 ⟨bt,rfl,hbt,f3,hT⟩
 have HT:Hid (pr<bt):=Nat.lt_of_lt_of_le TW0.ref.head.lt hbt
 replace TW0:=TW0.keep0 f3
 replace f0:=f0.trans f3
 replace rx:=rx.keep f3 (fun h=>h)
 replace rr:=rr.keep f3 (fun h=>h)
 clear f3 hbt
 go_upto_block 0 with fail
 go_cut [9] from 36 to 86 (fun s wx=>Fr bg w wx∧Twin wx w.heap.size pm bm pr br 16 (pB P (min len 100))∧Row wx gx #[.slice a0 len cap,.slice a1 len1 cap1,β g,U κ vm,U κ se] 25∧Row wx gr #[π none,π none,π none,π none,π none,π none] 44∧jj wx bt (fun _=>zl) 0 0)
 case first =>
  go_wp2_with fail
  go_loopw [9] (fun i wr=>∃ k:Nat,k≤len∧k≤100∧i=U κ k∧Fr bg w wr∧Twin wr w.heap.size pm bm pr br 16 (pB P k)∧Row wr gx #[.slice a0 len cap,.slice a1 len1 cap1,β g,U κ vm,U κ se] 25∧Row wr gr #[π none,π none,π none,π none,π none,π none] 44∧jj wr bt (fun _=>zl) 0 0) (fun i _=>100-(intOf i).toNat)
  case atStart=>exact ⟨0,by omega,by omega,rfl,f0,TW0,rx,rr,hT⟩
  case round =>
   clear f0 TW0 rx rr hT
   obtain ⟨k,hk,hk2,rfl,fk,TW,rx,rr,hT⟩:=hrel
   have x0:wr.cell? ⟨gx,0,none⟩=some (.slice a0 len cap):=rx.cell 0
   by_cases hlt:k<len
   ·by_cases hlt2:k<100
    ·obtain ⟨b,o,rfl,pk⟩:=HP.out k hlt
     have hbl:=qe pk.c0
     replace hbl:Hid (b<w.heap.size):=hbl
     replace pk:=pk.keep fk (fun h=>h)
     have i1:0≤(k:Int)∧(k:Int)<(len:Int):=by omega
     have uk1:decide ((k:Int)<(len:Int))=true:=decide_eq_true (by omega)
     have uk2:decide ((k:Int)<100)=true:=decide_eq_true (by omega)
     have nb:b≠bm∧b≠br:=by have:=hbl.out;have:=HA.out;omega
     have ng:gx≠bm∧gx≠br∧gr≠bm∧gr≠br:=by have:=HG.out;have:=HA.out;omega
     have nt:bt≠bm∧bt≠br:=by have:=HT.out;have:=HA.out;omega
     have HNN:Hid ((b≠bm∧b≠br)∧(gx≠bm∧gx≠br∧gr≠bm∧gr≠br)∧(bt≠bm∧bt≠br)):=⟨nb,ng,nt⟩
     clear nb ng nt
     go_wp2_with fail
     clear x0
     have dm:=TW.ram.drew
     go_region_held3 (fun w'=>w'.cell? ⟨gx,0,none⟩=some (.slice (some ⟨b,o,none⟩) len cap)∧w'.cell? ⟨b,o+k*6,none⟩=some (U κ (P k).t)∧w'.cell? ⟨b,o+k*6+1,none⟩=some (U κ (P k).i)∧w'.cell? ⟨b,o+k*6+2,none⟩=some (β (P k).v)∧w'.cell? ⟨b,o+k*6+3,none⟩=some (β (P k).l)∧w'.cell? ⟨b,o+k*6+4,none⟩=some (U κ (P k).r)∧w'.cell? ⟨b,o+k*6+5,none⟩=some (U κ (P k).f)) (first | with_reducible exact ⟨rx.cell 0,pk.c0,pk.c1,pk.c2,pk.c3,pk.c4,pk.c5⟩ | exact ⟨rx.cell 0,pk.c0,pk.c1,pk.c2,pk.c3,pk.c4,pk.c5⟩) (first | (go_at_call 21;refine(put_any _ _ _ _ _ _ _ _ _ _ _ dm).mono ?_;rintro e w1' ⟨rfl,f1,q1⟩;replace f1:=ks f1;replace pk:=pk.keep f1 HNN.out.1.1;replace rx:=rx.keep f1 HNN.out.2.1.1))
     clear dm
     have q0:=TW.ref.keep f1 TW.d2 (fun e=>TW.d3 e.symm)
     go_wp2_with fail
     have dr:=q0.drew
     go_region_held3 (fun w'=>w'.cell? ⟨gx,0,none⟩=some (.slice (some ⟨b,o,none⟩) len cap)∧w'.cell? ⟨b,o+k*6,none⟩=some (U κ (P k).t)∧w'.cell? ⟨b,o+k*6+1,none⟩=some (U κ (P k).i)∧w'.cell? ⟨b,o+k*6+2,none⟩=some (β (P k).v)∧w'.cell? ⟨b,o+k*6+3,none⟩=some (β (P k).l)∧w'.cell? ⟨b,o+k*6+4,none⟩=some (U κ (P k).r)∧w'.cell? ⟨b,o+k*6+5,none⟩=some (U κ (P k).f)) (first | with_reducible exact ⟨rx.cell 0,pk.c0,pk.c1,pk.c2,pk.c3,pk.c4,pk.c5⟩ | exact ⟨rx.cell 0,pk.c0,pk.c1,pk.c2,pk.c3,pk.c4,pk.c5⟩) (first | (go_at_call 22;refine(rput_any _ _ _ _ _ _ _ _ _ _ _ dr).mono ?_;rintro e w2' ⟨rfl,f2,q2⟩;replace f2:=ks f2;replace pk:=pk.keep f2 HNN.out.1.2;replace rx:=rx.keep f2 HNN.out.2.1.2.1))
     clear dr
     obtain ⟨TW2,ff⟩:=TW.step f1 q1 f2 q2
     replace fk:=fk.own ff TW.lo.2.1 TW.lo.2.2.2
     replace rr:=(rr.keep f1 HNN.out.2.1.2.2.1).keep f2 HNN.out.2.1.2.2.2
     replace hT:=(hT.keep f1 HNN.out.2.2.1).keep f2 HNN.out.2.2.2
     clear f1 f2 q0 q1 q2 ff TW
     go_wp2_with fail
     go_roundw
     case rel=>exact ⟨k+1,by omega,by omega,by go_num,fk,TW2,rx,rr,hT⟩
     case measure=>simp[intOf];omega
    ·obtain rfl:k=100:=by omega
     have uk1:decide (((100:Nat):Int)<(len:Int))=true:=decide_eq_true (by omega)
     have x0':wr.cell? ⟨gx,0,none⟩=some (.slice a0 len cap):=x0
     go_wp2_with fail
     go_meet
     exact ⟨fk,by rw[Nat.min_eq_right (by omega)];exact TW,rx,rr,hT⟩
   ·obtain rfl:k=len:=by omega
    go_wp2_with fail
    go_meet
    exact ⟨fk,by rw[Nat.min_eq_left (by omega)];exact TW,rx,rr,hT⟩
 case rest =>
 obtain ⟨f0,TW0,rx,rr,hT⟩:=hcut
 obtain ⟨bs0,hbs0⟩:∃ q,q=pB P (min len 100):=⟨_,rfl⟩
 rw[←hbs0] at TW0
 have HBS:Hid (bs0=pB P (min len 100)):=hbs0
 clear hbs0
 go_upto_block 2 with fail
 go_cut [10] from 87 to 125 (fun s wx=>Fr bg w wx∧Twin wx w.heap.size pm bm pr br 16 (wB bs0 Q (min len1 300))∧Row wx gx #[.slice a0 len cap,.slice a1 len1 cap1,β g,U κ vm,U κ se] 25∧Row wx gr #[π none,π none,π none,π none,π none,π none] 44∧jj wx bt (fun _=>zl) 0 0)
 case first =>
  go_wp2_with fail
  go_loopw [10] (fun i wr=>∃ k:Nat,k≤len1∧k≤300∧i=U κ k∧Fr bg w wr∧Twin wr w.heap.size pm bm pr br 16 (wB bs0 Q k)∧Row wr gx #[.slice a0 len cap,.slice a1 len1 cap1,β g,U κ vm,U κ se] 25∧Row wr gr #[π none,π none,π none,π none,π none,π none] 44∧jj wr bt (fun _=>zl) 0 0) (fun i _=>300-(intOf i).toNat)
  case atStart=>exact ⟨0,by omega,by omega,rfl,f0,TW0,rx,rr,hT⟩
  case round =>
   clear f0 TW0 rx rr hT
   obtain ⟨k,hk,hk2,rfl,fk,TW,rx,rr,hT⟩:=hrel
   have x0:wr.cell? ⟨gx,1,none⟩=some (.slice a1 len1 cap1):=rx.cell 1
   by_cases hlt:k<len1
   ·by_cases hlt2:k<300
    ·obtain ⟨b,o,rfl,pk⟩:=HQ.out k hlt
     have hbl:=qe pk.c0
     replace hbl:Hid (b<w.heap.size):=hbl
     replace pk:=pk.keep fk (fun h=>h)
     have i1:0≤(k:Int)∧(k:Int)<(len1:Int):=by omega
     have uk1:decide ((k:Int)<(len1:Int))=true:=decide_eq_true (by omega)
     have uk2:decide ((k:Int)<300)=true:=decide_eq_true (by omega)
     have nb:b≠bm∧b≠br:=by have:=hbl.out;have:=HA.out;omega
     have ng:gx≠bm∧gx≠br∧gr≠bm∧gr≠br:=by have:=HG.out;have:=HA.out;omega
     have nt:bt≠bm∧bt≠br:=by have:=HT.out;have:=HA.out;omega
     have HNN:Hid ((b≠bm∧b≠br)∧(gx≠bm∧gx≠br∧gr≠bm∧gr≠br)∧(bt≠bm∧bt≠br)):=⟨nb,ng,nt⟩
     clear nb ng nt
     go_wp2_with fail
     clear x0
     have dm:=TW.ram.drew
     go_region_held3 (fun w'=>w'.cell? ⟨gx,1,none⟩=some (.slice (some ⟨b,o,none⟩) len1 cap1)∧w'.cell? ⟨b,o+k*2,none⟩=some (U κ (Q k).a)∧w'.cell? ⟨b,o+k*2+1,none⟩=some (U μ ((Q k).w:Int))) (first | with_reducible exact ⟨rx.cell 1,pk.c0,pk.c1⟩ | exact ⟨rx.cell 1,pk.c0,pk.c1⟩) (first | (go_at_call 23;refine(ws _ _ _ _ _ (Q k).a 4 (Q k).w dm pk.small pk.word).mono ?_;rintro e w1' ⟨rfl,f1,q1⟩;replace f1:=ks f1;replace pk:=pk.keep f1 HNN.out.1.1;replace rx:=rx.keep f1 HNN.out.2.1.1))
     clear dm
     have q0:=TW.ref.keep f1 TW.d2 (fun e=>TW.d3 e.symm)
     go_wp2_with fail
     have dr:=q0.drew
     go_region_held3 (fun w'=>w'.cell? ⟨gx,1,none⟩=some (.slice (some ⟨b,o,none⟩) len1 cap1)∧w'.cell? ⟨b,o+k*2,none⟩=some (U κ (Q k).a)∧w'.cell? ⟨b,o+k*2+1,none⟩=some (U μ ((Q k).w:Int))) (first | with_reducible exact ⟨rx.cell 1,pk.c0,pk.c1⟩ | exact ⟨rx.cell 1,pk.c0,pk.c1⟩) (first | (go_at_call 24;refine(qk _ _ _ _ _ (Q k).a 4 (Q k).w dr pk.word).mono ?_;rintro e w2' ⟨rfl,f2,q2⟩;replace f2:=ks f2;replace pk:=pk.keep f2 HNN.out.1.2;replace rx:=rx.keep f2 HNN.out.2.1.2.1))
     clear dr
     obtain ⟨TW2,ff⟩:=TW.step f1 q1 f2 q2
     replace fk:=fk.own ff TW.lo.2.1 TW.lo.2.2.2
     replace rr:=(rr.keep f1 HNN.out.2.1.2.2.1).keep f2 HNN.out.2.1.2.2.2
     replace hT:=(hT.keep f1 HNN.out.2.2.1).keep f2 HNN.out.2.2.2
     clear f1 f2 q0 q1 q2 ff TW
     go_wp2_with fail
     go_roundw
     case rel=>exact ⟨k+1,by omega,by omega,by go_num,fk,TW2,rx,rr,hT⟩
     case measure=>simp[intOf];omega
    ·obtain rfl:k=300:=by omega
     have uk1:decide (((300:Nat):Int)<(len1:Int))=true:=decide_eq_true (by omega)
     have x0':wr.cell? ⟨gx,1,none⟩=some (.slice a1 len1 cap1):=x0
     go_wp2_with fail
     go_meet
     exact ⟨fk,by rw[Nat.min_eq_right (by omega)];exact TW,rx,rr,hT⟩
   ·obtain rfl:k=len1:=by omega
    go_wp2_with fail
    go_meet
    exact ⟨fk,by rw[Nat.min_eq_left (by omega)];exact TW,rx,rr,hT⟩
 case rest =>
 obtain ⟨f0,TW0,rx,rr,hT⟩:=hcut
 obtain ⟨bu,hbu⟩:∃ q,q=wc.heap.size:=⟨_,rfl⟩
 obtain ⟨gs,hgs⟩:∃ q,q=wc.heap.size+1:=⟨_,rfl⟩
 have HU:Hid (bt<bu∧gs=bu+1∧gr<bu):=(show _∧_ from ⟨by rw[hbu];exact hT.lt,by omega,by rw[hbu];exact rr.lt⟩)
 have q1:=((Fr.refl bg wc).alloc (ω #[U κ 0,U κ 0,U κ 0,U κ 0,U κ 0,U κ 0,U κ 0,U κ 0,U κ 0,U κ 0,U κ 0,U κ 0,U κ 0,U κ 0,U κ 0,U κ 0,U κ 0,U κ 0,U κ 0,U κ 0,U κ 0,U κ 0,U κ 0,U κ 0,U κ 0,U κ 0,U κ 0,U κ 0,U κ 0,U κ 0,U κ 0,U κ 0,U κ 0,U κ 0,U κ 0,U κ 0,U κ 0,U κ 0,U κ 0,U κ 0,U κ 0,U κ 0] 88)).alloc (ω #[π (some ⟨pm,0,none⟩),π (some ⟨bt,0,none⟩),π none,π (some ⟨pr,0,none⟩),π (some ⟨bu,0,none⟩),π none] 44)
 have hU:gj ((wc.alloc (ω #[U κ 0,U κ 0,U κ 0,U κ 0,U κ 0,U κ 0,U κ 0,U κ 0,U κ 0,U κ 0,U κ 0,U κ 0,U κ 0,U κ 0,U κ 0,U κ 0,U κ 0,U κ 0,U κ 0,U κ 0,U κ 0,U κ 0,U κ 0,U κ 0,U κ 0,U κ 0,U κ 0,U κ 0,U κ 0,U κ 0,U κ 0,U κ 0,U κ 0,U κ 0,U κ 0,U κ 0,U κ 0,U κ 0,U κ 0,U κ 0,U κ 0,U κ 0] 88)).alloc (ω #[π (some ⟨pm,0,none⟩),π (some ⟨bt,0,none⟩),π none,π (some ⟨pr,0,none⟩),π (some ⟨bu,0,none⟩),π none] 44)) bu (fun _=>zl) 0 0:=by rw[hbu];exact(buf_zero _ _).alloc _
 have rs:Row ((wc.alloc (ω #[U κ 0,U κ 0,U κ 0,U κ 0,U κ 0,U κ 0,U κ 0,U κ 0,U κ 0,U κ 0,U κ 0,U κ 0,U κ 0,U κ 0,U κ 0,U κ 0,U κ 0,U κ 0,U κ 0,U κ 0,U κ 0,U κ 0,U κ 0,U κ 0,U κ 0,U κ 0,U κ 0,U κ 0,U κ 0,U κ 0,U κ 0,U κ 0,U κ 0,U κ 0,U κ 0,U κ 0,U κ 0,U κ 0,U κ 0,U κ 0,U κ 0,U κ 0] 88)).alloc (ω #[π (some ⟨pm,0,none⟩),π (some ⟨bt,0,none⟩),π none,π (some ⟨pr,0,none⟩),π (some ⟨bu,0,none⟩),π none] 44)) gs #[π (some ⟨pm,0,none⟩),π (some ⟨bt,0,none⟩),π none,π (some ⟨pr,0,none⟩),π (some ⟨bu,0,none⟩),π none] 44:=dq (by rw[hgs];simp)
 rw[hbu] at q1 hU rs
 go_upto_region 17 with fail
 obtain ⟨v5,hv5⟩:∃ v5,v5=(wc.alloc (ω #[U κ 0,U κ 0,U κ 0,U κ 0,U κ 0,U κ 0,U κ 0,U κ 0,U κ 0,U κ 0,U κ 0,U κ 0,U κ 0,U κ 0,U κ 0,U κ 0,U κ 0,U κ 0,U κ 0,U κ 0,U κ 0,U κ 0,U κ 0,U κ 0,U κ 0,U κ 0,U κ 0,U κ 0,U κ 0,U κ 0,U κ 0,U κ 0,U κ 0,U κ 0,U κ 0,U κ 0,U κ 0,U κ 0,U κ 0,U κ 0,U κ 0,U κ 0] 88)).alloc (ω #[π (some ⟨pm,0,none⟩),π (some ⟨bt,0,none⟩),π none,π (some ⟨pr,0,none⟩),π (some ⟨wc.heap.size,0,none⟩),π none] 44):=⟨_,rfl⟩
 rw[←hv5] at q1 hU rs ⊢
 rw[←hgs]
 rw[←hbu] at hU rs ⊢
 clear hv5 hbu hgs
 replace f0:=f0.trans q1
 replace TW0:=TW0.keep0 q1
 replace rx:=rx.keep q1 (fun h=>h)
 replace rr:=rr.keep q1 (fun h=>h)
 replace hT:=hT.keep q1 (fun h=>h)
 clear q1
 have c2:v5.cell? ⟨gx,2,none⟩=some (β g):=rx.cell 2
 have HAll:Hid (w.heap.size+2≤bm∧bm<pm∧pm<br∧br<pr∧pr<bt∧bt<bu∧gs=bu+1∧gr=w.heap.size+1∧gx=w.heap.size):=(show _∧_ from by have:=HA.out;have:=HT.out;have:=HU.out;have:=HG.out;omega)
 clear HA HT HU HG HP HQ
 cases g with
 | false =>
  obtain ⟨s0,s1,s2,s3,s4,s5⟩:=vt rs
  obtain ⟨r0,r1,r2,r3,r4,r5⟩:=vt rr
  obtain ⟨z0,z1,z2,z3,z4,z5⟩:=frozen6 rr
  go_wp2_with fail
  refine bodyPost_ret (ret_both rfl rfl (row_set6 rr _ _ _ _ _ _) rfl) rfl ?_
  have q:=fr_own6 v5 gr (π (some ⟨pm,0,none⟩)) (π (some ⟨bt,0,none⟩)) (π none) (π (some ⟨pr,0,none⟩)) (π (some ⟨bu,0,none⟩)) (π none)
  have hh:=HAll.out
  have TW3:=TW0.keep q (show pm≠gr by omega) (show bm≠gr by omega) (show pr≠gr by omega) (show br≠gr by omega)
  rw[HBS.out] at TW3
  refine ⟨⟨⟨pm,bm,bt,none⟩,pr,br,bu,none⟩,rfl,f0.newer q (by omega),⟨⟨TW3.ram,hT.keep q (show bt≠gr by omega),trivial,by show pm≠bt;omega,by show bm≠bt;omega,by show pm≠bm;omega,fun e=>e,fun e=>e,fun e=>e⟩,TW3.ref,hU.keep q (show bu≠gr by omega),trivial,fun k hk=>?_,⟨by show _≤pr;omega,by show _≤br;omega,by show _≤bu;omega,fun _ h=>by cases h⟩,fun k hk=>?_,⟨by show pr≠bu;omega,by show br≠bu;omega,fun _ h=>by cases h⟩⟩⟩
  ·have hk':k=bm∨k=bt∨k=pm:=by rcases hk with(h | h | h) | h;exact Or.inl h;exact Or.inr (Or.inl h);exact h.elim;exact Or.inr (Or.inr h)
   omega
  ·have hk':k=bm∨k=bt∨k=pm:=by rcases hk with(h | h | h) | h;exact Or.inl h;exact Or.inr (Or.inl h);exact h.elim;exact Or.inr (Or.inr h)
   exact ⟨by show k≠pr;omega,by show k≠br;omega,by show k≠bu;omega,fun _ h=>by cases h⟩
 | true =>
  go_wp2_with fail
  refine(v_new_ok _ 4 (by decide)).mono ?_
  rintro e v6 ⟨b,rfl,hbn,f6,hV⟩
  have HV1:Hid (∀ k,b.s k→gs<k∧k<v6.heap.size):=fun k hk=>⟨Nat.lt_of_lt_of_le rs.lt (hbn k hk),hV.lt k hk⟩
  replace f0:=f0.trans f6
  replace TW0:=TW0.keep0 f6
  replace rr:=rr.keep f6 (fun h=>h)
  replace rs:=rs.keep f6 (fun h=>h)
  replace hT:=hT.keep f6 (fun h=>h)
  replace hU:=hU.keep f6 (fun h=>h)
  clear f6 hbn rx c2
  go_wp2_with fail
  refine(v_rnew_ok _ 4 (by decide)).mono ?_
  rintro e v7 ⟨vr,rfl,hvn,f7,hRV⟩
  have HV2:Hid (∀ k,b.s k→gs<k∧k<vr):=fun k hk=>⟨(HV1.out k hk).1,Nat.lt_of_lt_of_le (HV1.out k hk).2 hvn⟩
  have HV3:Hid (gs<vr):=Nat.lt_of_lt_of_le rs.lt hvn
  replace f0:=f0.trans f7
  replace TW0:=TW0.keep0 f7
  replace rr:=rr.keep f7 (fun h=>h)
  replace rs:=rs.keep f7 (fun h=>h)
  replace hT:=hT.keep f7 (fun h=>h)
  replace hU:=hU.keep f7 (fun h=>h)
  replace hV:=hV.keep0 f7
  clear f7 hvn HV1
  obtain ⟨s0,s1,s2,s3,s4,s5⟩:=vt rs
  obtain ⟨y0,y1,y2,y3,y4,y5⟩:=frozen6 rs
  obtain ⟨r0,r1,r2,r3,r4,r5⟩:=vt rr
  obtain ⟨z0,z1,z2,z3,z4,z5⟩:=frozen6 rr
  have ngs:gs≠gr:=by have:=HAll.out;omega
  go_wp2_with fail
  have q1:Fr (at' gs) v7 ((v7.setCell ⟨gs,2,none⟩ (π (some ⟨b.b,0,none⟩))).setCell ⟨gs,5,none⟩ (π (some ⟨vr,0,none⟩))):=cy v7 gs 5 _ (cy v7 gs 2 _ (Fr.refl _ v7))
  have rr1:=rr.keep q1 (show gr≠gs from Ne.symm ngs)
  obtain ⟨v8,hv8⟩:∃ v8,v8=(v7.setCell ⟨gs,2,none⟩ (π (some ⟨b.b,0,none⟩))).setCell ⟨gs,5,none⟩ (π (some ⟨vr,0,none⟩)):=⟨_,rfl⟩
  rw[←hv8] at q1 rr1 ⊢
  clear hv8
  refine bodyPost_ret (ret_both rfl rfl (row_set6 rr1 _ _ _ _ _ _) rfl) rfl ?_
  have q2:=fr_own6 v8 gr (π (some ⟨pm,0,none⟩)) (π (some ⟨bt,0,none⟩)) (π (some ⟨b.b,0,none⟩)) (π (some ⟨pr,0,none⟩)) (π (some ⟨bu,0,none⟩)) (π (some ⟨vr,0,none⟩))
  have hh:=HAll.out
  have h3:=HV3.out
  have hs2:=HV2.out
  have TW3:=(TW0.keep q1 (show pm≠gs by omega) (show bm≠gs by omega) (show pr≠gs by omega) (show br≠gs by omega)).keep q2 (show pm≠gr by omega) (show bm≠gr by omega) (show pr≠gr by omega) (show br≠gr by omega)
  rw[HBS.out] at TW3
  refine ⟨⟨⟨pm,bm,bt,some b⟩,pr,br,bu,some vr⟩,rfl,(f0.newer q1 (by omega)).newer q2 (by omega),⟨⟨TW3.ram,(hT.keep q1 (show bt≠gs by omega)).keep q2 (show bt≠gr by omega),?_,by show pm≠bt;omega,by show bm≠bt;omega,by show pm≠bm;omega,fun e=>by have:=hs2 pm e;omega,fun e=>by have:=hs2 bm e;omega,fun e=>by have:=hs2 bt e;omega⟩,TW3.ref,(hU.keep q1 (show bu≠gs by omega)).keep q2 (show bu≠gr by omega),?_,fun k hk=>?_,⟨by show _≤pr;omega,by show _≤br;omega,by show _≤bu;omega,fun b' h=>by cases h;omega⟩,fun k hk=>?_,⟨by show pr≠bu;omega,by show br≠bu;omega,fun b' h=>by cases h;exact ⟨by show vr≠pr;omega,by show vr≠br;omega,by show vr≠bu;omega⟩⟩⟩⟩
  ·exact(hV.keep q1 (fun k hk e=>by have e':k=gs:=e;have:=hs2 k hk;omega)).keep q2 (fun k hk e=>by have e':k=gr:=e;have:=hs2 k hk;omega)
  ·exact(hRV.keep q1 (show vr≠gs by omega)).keep q2 (show vr≠gr by omega)
  ·have hk':(k=bm∨k=bt∨k=pm)∨b.s k:=by rcases hk with(h | h | h) | h;exact Or.inl (Or.inl h);exact Or.inl (Or.inr (Or.inl h));exact Or.inr h;exact Or.inl (Or.inr (Or.inr h))
   rcases hk' with hk' | hk'
   ·omega
   ·have:=hs2 k hk';omega
  ·have hk':(k=bm∨k=bt∨k=pm)∨b.s k:=by rcases hk with(h | h | h) | h;exact Or.inl (Or.inl h);exact Or.inl (Or.inr (Or.inl h));exact Or.inr h;exact Or.inl (Or.inr (Or.inr h))
   rcases hk' with hk' | hk'
   ·exact ⟨by show k≠pr;omega,by show k≠br;omega,by show k≠bu;omega,fun b' h=>by cases h;omega⟩
   ·have:=hs2 k hk'
    exact ⟨by show k≠pr;omega,by show k≠br;omega,by show k≠bu;omega,fun b' h=>by cases h;omega⟩
end Go.Proofs.YtibhbjbpodlpiaaGreat
