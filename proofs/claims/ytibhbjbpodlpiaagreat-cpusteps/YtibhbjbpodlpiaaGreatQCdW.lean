/-
  Contracts over the translation. No statement is proved here.
-/
import Derived.Deep.CutRange
import Derived.Test.YtibhbjbpodlpiaaGreatQCdWA
set_option maxRecDepth 100000
set_option maxHeartbeats 8000000
namespace Go.Proofs.YtibhbjbpodlpiaaGreat
open Go.RowKit
open Go.Value renaming int → U, bool → β, pointer → π, tuple → τ
open Go.IntKind renaming i64 → κ, u32 → μ
open Go.Obj renaming cells → ω
open Go.Ending renaming returned → ρ
open Go.Proofs.Tryz renaming prog → pQ
theorem neq_trap (t:Tr) (w:World):(binOp .neq 52 (.agg (trL t)) (.agg (trL t))).run pQ w=.ok (β false) w:=by
 simp[trL,go_sem]
theorem neq_space (a b c d:Int) (w:World):(binOp .neq 63 (.agg #[U κ a,U κ b,U κ c,U κ d]) (.agg #[U κ a,U κ b,U κ c,U κ d])).run pQ w=.ok (β false) w:=by
 simp[go_sem]
theorem bo_at {w:World} {g:Nat} {O:Bo} {ty:TypeId} (h:Row w g O.a ty):∀ j v,(O.a)[j]? = some v→w.cell? ⟨g,j,none⟩=some v:=fun j _ hv=>(h.cell j).trans hv
theorem bo_one (O:Bo):(O.a).all (·.oneCell')=true:=by
 unfold Bo.a
 cases O.B.v <;> cases O.vr <;> simp[gu,Value.oneCell']
theorem steps_walk (w:World) (a0 a1:Option Addr) (len cap len1 cap1:Nat) (g:Bool) (vm se:Int) (P:Nat→Pu) (Q:Nat→Wo) (hl:len≤9223372036854775807) (hl1:len1≤9223372036854775807) (hP:Pus w a0 len P) (hQ:Wos w a1 len1 Q) (c:Cp) (hok:c.Ok) (a2:Option Addr) (len2 cap2:Nat) (hl2:len2≤9223372036854775807) (hA:Acts w a2 len2) :
  Calls pQ 3 #[.agg #[.slice a0 len cap,.slice a1 len1 cap1,β g,U κ vm,U κ se],.agg (cpA c),.slice a2 len2 cap2] w fun e w'=>e=ρ (β true)∧Fr bg w w':=by
 have hz:∀ w,Sem.run pQ (zeroValue 30) w=.ok (.agg (cpA zc)) w:=my
 have f0:=((Fr.refl bg w).alloc (ω #[.slice a0 len cap,.slice a1 len1 cap1,β g,U κ vm,U κ se] 25)).alloc (ω (cpA c) 30)
 have rx:=(ba w #[.slice a0 len cap,.slice a1 len1 cap1,β g,U κ vm,U κ se] 25).alloc (ω (cpA c) 30)
 have rc:=dq (W:=w.alloc (ω #[.slice a0 len cap,.slice a1 len1 cap1,β g,U κ vm,U κ se] 25)) (n:=w.heap.size+1) (cs:=cpA c) (t:=30) (by simp)
 have HL:Hid (len≤9223372036854775807∧len1≤9223372036854775807):=⟨hl,hl1⟩
 have HA:Hid (Acts w a2 len2∧len2≤9223372036854775807):=⟨hA,hl2⟩
 have HOK:Hid c.Ok:=hok
 clear hl hl1 hA hl2 hok
 go_enter Tryz.func3,Tryz.ntmps3
 go_wp2_with fail
 refine(awake_any _).mono ?_
 rintro e w1 ⟨rfl,g1⟩
 replace f0:=f0.trans g1
 replace rx:=rx.keep g1 (fun h=>h)
 replace rc:=rc.keep g1 (fun h=>h)
 clear g1
 obtain ⟨gx,hgx⟩:∃ q,q=w.heap.size:=⟨_,rfl⟩
 obtain ⟨gc,hgc⟩:∃ q,q=w.heap.size+1:=⟨_,rfl⟩
 rw[←hgc] at rc ⊢
 rw[←hgx] at rx ⊢
 have HG:Hid (gx=w.heap.size∧gc=w.heap.size+1):=⟨hgx,hgc⟩
 clear hgx hgc
 have hP1:=hP.keep f0
 have hQ1:=hQ.keep f0
 clear hP hQ
 obtain ⟨x0,x1,x2,x3,x4⟩:w1.cell? ⟨gx,0,none⟩=some (.slice a0 len cap)∧w1.cell? ⟨gx,1,none⟩=some (.slice a1 len1 cap1)∧w1.cell? ⟨gx,2,none⟩=some (β g)∧w1.cell? ⟨gx,3,none⟩=some (U κ vm)∧w1.cell? ⟨gx,4,none⟩=some (U κ se):=⟨rx.cell 0,rx.cell 1,rx.cell 2,rx.cell 3,rx.cell 4⟩
 go_wp2_with fail
 refine(made_any w1 a0 a1 len cap len1 cap1 g vm se P Q HL.out.1 HL.out.2 hP1 hQ1).mono ?_
 rintro e w2 ⟨O1,rfl,g2,hB1⟩
 clear x0 x1 x2 x3 x4
 obtain ⟨BS,hBS⟩:∃ BS,BS=wB (pB P (min len 100)) Q (min len1 300):=⟨_,rfl⟩
 rw[←hBS] at hB1
 clear hBS
 have IJ1:Hid ((∀ k,O1.D.y k→w1.heap.size≤k∧k<w2.heap.size)∧(∀ k,(O1.B.s k∨k=O1.B.p)→¬ O1.D.y k)):=⟨hB1.dn,hB1.dap⟩
 have II1:Hid (∀ k,(O1.B.s k∨k=O1.B.p)→w1.heap.size≤k∧k<w2.heap.size):=hB1.in
 have L1:Hid (gc<w1.heap.size):=rc.lt
 have L2:Hid (w1.heap.size≤w2.heap.size):=g2.size
 have z8:=ba w2 #[π none,π none,π none,π none,π none,π none] 44
 have g3:Fr bg w2 ((w2.alloc (ω #[π none,π none,π none,π none,π none,π none] 44)).setRow w2.heap.size O1.a):=((Fr.refl bg w2).alloc _).newer (bb _ w2.heap.size _) (Nat.le_refl _)
 have rr:Row ((w2.alloc (ω #[π none,π none,π none,π none,π none,π none] 44)).setRow w2.heap.size O1.a) w2.heap.size O1.a 44:=z8.setRow
 have GG:Hid (Fr bg w2 ((w2.alloc (ω #[π none,π none,π none,π none,π none,π none] 44)).setRow w2.heap.size O1.a)∧Row ((w2.alloc (ω #[π none,π none,π none,π none,π none,π none] 44)).setRow w2.heap.size O1.a) w2.heap.size O1.a 44):=⟨g3,rr⟩
 clear g3 rr
 go_upto_region 5 with(refine wpList_store_row rfl 44 _ _ rfl w2.heap.size O1.a rfl rfl 44 #[π none,π none,π none,π none,π none,π none] z8 wy rfl (bo_one O1) ?_)
 obtain ⟨g3,r8⟩:=GG.out
 clear GG z8
 obtain ⟨w3,hw3⟩:∃ q,q=(w2.alloc (ω #[π none,π none,π none,π none,π none,π none] 44)).setRow w2.heap.size O1.a:=⟨_,rfl⟩
 rw[←hw3] at g3 r8 ⊢
 clear hw3
 have m1:=hB1.m.keep0 g3
 have d1:=hB1.d.keep0 g3
 have L3:Hid (w2.heap.size<w3.heap.size):=r8.lt
 replace g2:=g2.trans g3
 replace rx:=rx.keep g2 (fun h=>h)
 replace rc:=rc.keep g2 (fun h=>h)
 replace f0:=f0.trans g2
 clear g2 g3 hB1
 obtain ⟨g8,hg8⟩:∃ q,q=w2.heap.size:=⟨_,rfl⟩
 rw[←hg8] at r8 ⊢
 have H8:Hid (g8=w2.heap.size):=hg8
 clear hg8
 have q10:=ba w3 (cpA zc) 30
 have lp:(cpA zc).size=(cpA c).size:=by rw[bj,bj]
 have GG:Hid (Fr bg w3 ((w3.alloc (ω (cpA zc) 30)).setRow w3.heap.size (cpA c))∧Row ((w3.alloc (ω (cpA zc) 30)).setRow w3.heap.size (cpA c)) w3.heap.size (cpA c) 30):=⟨((Fr.refl bg w3).alloc _).newer (bb _ w3.heap.size _) (Nat.le_refl _),q10.setRow⟩
 go_upto_region 6 with(first | refine bh rfl 30 _ rfl gc rfl (cpA c) _ (p7 rc) Tryz.underlying30 rfl (bk c) ?_ | refine wpList_store_row rfl 30 _ _ rfl w3.heap.size (cpA c) rfl rfl 30 (cpA zc) q10 (bk c) lp (bw c) ?_)
 obtain ⟨g4,r10⟩:=GG.out
 clear GG q10 lp
 obtain ⟨w4,hw4⟩:∃ q,q=(w3.alloc (ω (cpA zc) 30)).setRow w3.heap.size (cpA c):=⟨_,rfl⟩
 rw[←hw4] at g4 r10 ⊢
 clear hw4
 obtain ⟨gd,hgd⟩:∃ q,q=w3.heap.size:=⟨_,rfl⟩
 rw[←hgd] at r10 ⊢
 have HC:Hid (Cs w w4 gx gc g8 gd #[.slice a0 len cap,.slice a1 len1 cap1,β g,U κ vm,U κ se] O1 (M0 BS g) (M0 BS g) c c∧Gd (M0 BS g) c vm 0):=by
  refine ⟨⟨f0.trans g4,rx.keep g4 (fun h=>h),rc.keep g4 (fun h=>h),r10,r8.keep g4 (fun h=>h),m1.keep0 g4,d1.keep0 g4,?_,?_,IJ1.out.2,?_⟩,⟨M0_few BS g,HOK.out,Or.inr (fun _ _=>rfl)⟩⟩
  ·intro k hk
   have h1:=II1.out k hk
   have h2:=L1.out
   have h3:=H8.out
   omega
  ·intro k hk
   have h1:=IJ1.out.1 k hk
   have h2:=L1.out
   have h3:=H8.out
   omega
  ·have h1:=HG.out
   have h2:=L1.out
   have h3:=L2.out
   have h4:=H8.out
   have h5:=L3.out
   omega
 clear f0 rx rc r8 m1 d1 II1 IJ1 L1 L2 L3 H8 HG HOK g4 r10 hgd HL
 go_wp2_with fail
 go_loopw [11,12,13,14,15,16,17,18,19,20,21,22,23,24,25,26,27] (fun i _ _ _ _ _ _ _ _ _ _ _ _ _ _ _ _ wr=>∃ (k:Nat) (M:Mc) (c:Cp),k≤60∧i=U κ (k:Int)∧Hid (Cs w wr gx gc g8 gd #[.slice a0 len cap,.slice a1 len1 cap1,β g,U κ vm,U κ se] O1 M M c c∧Gd M c vm k)) (fun i _ _ _ _ _ _ _ _ _ _ _ _ _ _ _ _ _=>60-(intOf i).toNat)
 case atStart=>exact ⟨0,M0 BS g,c,by omega,rfl,HC⟩
 case round =>
  clear HC
  obtain ⟨k,M,c,hk,rfl,HH⟩:=hrel
  by_cases hin:k<len2∧k<60
  ·have u1:decide ((k:Int)<(len2:Int))=true:=decide_eq_true (by omega)
   have u2:decide ((k:Int)<60)=true:=decide_eq_true (by omega)
   have i1:0≤(k:Int)∧(k:Int)<(len2:Int):=by omega
   have HK:Hid (k<60):=hin.2
   obtain ⟨b2,o2,dd,x1,x2,on,rfl,hact⟩:=HA.out.1 k hin.1
   obtain ⟨c0,c1,c2,c3⟩:=hact.keep HH.out.1.f (fun h=>h)
   clear hact hin hk
   have HC0:Hid (Cs w (wr.alloc (ω #[U κ dd,U κ x1,U κ x2,β on] 48)) gx gc g8 gd #[.slice a0 len cap,.slice a1 len1 cap1,β g,U κ vm,U κ se] O1 M M c c):=HH.out.1.keep0 ((Fr.refl bg wr).alloc _)
   have HD:Hid (Gd M c vm k):=HH.out.2
   have HGA:Hid (gd<wr.heap.size):=HH.out.1.rd.lt
   have ra:=ba wr #[U κ dd,U κ x1,U κ x2,β on] 48
   clear HH
   go_upto_block 2 with fail
   clear c0 c1 c2 c3 u1 u2 i1
   obtain ⟨v0,hv0⟩:∃ q,q=wr.alloc (ω #[U κ dd,U κ x1,U κ x2,β on] 48):=⟨_,rfl⟩
   rw[←hv0] at HC0 ra ⊢
   clear hv0
   obtain ⟨ga,hga⟩:∃ q,q=wr.heap.size:=⟨_,rfl⟩
   rw[←hga] at HGA ra ⊢
   clear hga
   have HC:=HC0
   clear HC0
   go_cut [13,14,15,16,17,18,19,20,21,22,23,24] from 37 to 198 (fun s13 s14 s15 s16 s17 s18 s19 s20 s21 s22 s23 s24 wx=>∃ (M1:Mc) (c1:Cp),Hid (Cs w wx gx gc g8 gd #[.slice a0 len cap,.slice a1 len1 cap1,β g,U κ vm,U κ se] O1 M1 M1 c1 c1∧Gd M1 c1 vm (k+1)))
   case first =>
    have n0:=ra.cell 0
    go_upto_region 11 with fail
    clear n0
    by_cases h1:dd=1
    ·subst h1
     obtain ⟨R,hR⟩:∃ R,dx 16 M c vm se x1=R:=⟨_,rfl⟩
     have HG2:Hid (Gd R.1 R.2.1 vm (k+1)):=by rw[←hR];exact HD.out.step se x1
     obtain ⟨M1,c1,T1⟩:=R
     replace HG2:Hid (Gd M1 c1 vm (k+1)):=HG2
     have S1:∀ v,IsMc v O1.B 16 M→Calls pQ 6 #[.agg #[π (some ⟨O1.B.p,0,none⟩),π (some ⟨O1.B.bt,0,none⟩),gu (O1.B.v.map Bk.b)],.agg (cpA c),U κ vm,U κ se,U κ x1] v fun e w'=>e=ρ (τ #[.agg (cpA c1),.agg (trL T1)])∧Fr O1.B.s v w'∧IsMc w' O1.B 16 M1:=fun v h=>by
      have q:=Step_any v O1.B 16 M c HD.out.ok vm se x1 h HD.out.few (by have:=HK.out;omega)
      rw[hR] at q
      exact q.mono fun e w' ⟨h1,h2,h3,_⟩=>⟨h1,h2,h3⟩
     have S2:∀ v,IsMd v O1.D 16 M→Calls pQ 7 #[.agg #[π (some ⟨O1.pr,0,none⟩),π (some ⟨O1.bu,0,none⟩),gu O1.vr],.agg (cpA c),U κ vm,U κ se,U κ x1] v fun e w'=>e=ρ (τ #[.agg (cpA c1),.agg (trL T1)])∧Fr O1.D.s v w'∧IsMd w' O1.D 16 M1:=fun v h=>by
      have q:=dstep_any v O1.D 16 M c HD.out.ok vm se x1 h HD.out.few (by have:=HK.out;omega) HD.out.vz
      rw[hR] at q
      exact q
     clear hR
     obtain ⟨x3,x4⟩:v0.cell? ⟨gx,3,none⟩=some (U κ vm)∧v0.cell? ⟨gx,4,none⟩=some (U κ se):=⟨HC.out.rx.cell 3,HC.out.rx.cell 4⟩
     obtain ⟨y0,y1,y2⟩:v0.cell? ⟨g8,0,none⟩=some (π (some ⟨O1.B.p,0,none⟩))∧v0.cell? ⟨g8,1,none⟩=some (π (some ⟨O1.B.bt,0,none⟩))∧v0.cell? ⟨g8,2,none⟩=some (gu (O1.B.v.map Bk.b)):=⟨HC.out.r8.cell 0,HC.out.r8.cell 1,HC.out.r8.cell 2⟩
     have n1:=ra.cell 1
     go_wp2_with (refine bh rfl 30 _ rfl gc rfl (cpA c) _ (p7 HC.out.rc) Tryz.underlying30 rfl (bk c) ?_)
     refine(S1 _ HC.out.m).mono ?_
     rintro e v1 ⟨rfl,f1,m1⟩
     have HC1:Hid (Cs w v1 gx gc g8 gd #[.slice a0 len cap,.slice a1 len1 cap1,β g,U κ vm,U κ se] O1 M1 M c c):=HC.out.runP f1 m1
     have ra1:=ra.keep f1 (fun e=>by have:=HC.out.s _ (Or.inl e);have:=HGA.out;have:=HC.out.g;omega)
     have HGD1:Hid (ga<v1.heap.size∧gd<v1.heap.size):=⟨ra1.lt,HC1.out.rd.lt⟩
     clear S1 x3 x4 y0 y1 y2 n1 f1 m1 HC ra
     have q12:Row ((v1.alloc (ω (cpA zc) 30)).alloc (ω #[U κ 0,U κ 0,U κ 0,U κ 0,U κ 0,U κ 0,β false,U κ 0] 52)) v1.heap.size (cpA zc) 30:=(ba v1 (cpA zc) 30).alloc _
     have q13:Row ((v1.alloc (ω (cpA zc) 30)).alloc (ω #[U κ 0,U κ 0,U κ 0,U κ 0,U κ 0,U κ 0,β false,U κ 0] 52)) (v1.heap.size+1) #[U κ 0,U κ 0,U κ 0,U κ 0,U κ 0,U κ 0,β false,U κ 0] 52:=dq (by simp)
     have q13':=q13.keep (bb _ v1.heap.size (cpA c1)) (fun e=>by have e':v1.heap.size+1=v1.heap.size:=e;omega)
     have lp:(cpA zc).size=(cpA c1).size:=by rw[bj,bj]
     have GG:Hid (Fr bg v1 ((((v1.alloc (ω (cpA zc) 30)).alloc (ω #[U κ 0,U κ 0,U κ 0,U κ 0,U κ 0,U κ 0,β false,U κ 0] 52)).setRow v1.heap.size (cpA c1)).setRow (v1.heap.size+1) (trL T1))∧Row ((((v1.alloc (ω (cpA zc) 30)).alloc (ω #[U κ 0,U κ 0,U κ 0,U κ 0,U κ 0,U κ 0,β false,U κ 0] 52)).setRow v1.heap.size (cpA c1)).setRow (v1.heap.size+1) (trL T1)) v1.heap.size (cpA c1) 30∧Row ((((v1.alloc (ω (cpA zc) 30)).alloc (ω #[U κ 0,U κ 0,U κ 0,U κ 0,U κ 0,U κ 0,β false,U κ 0] 52)).setRow v1.heap.size (cpA c1)).setRow (v1.heap.size+1) (trL T1)) (v1.heap.size+1) (trL T1) 52):=
      ⟨((((Fr.refl bg v1).alloc _).alloc _).newer (bb _ v1.heap.size (cpA c1)) (Nat.le_refl _)).newer (bb _ (v1.heap.size+1) (trL T1)) (Nat.le_succ _),(q12.setRow).keep (bb _ (v1.heap.size+1) _) (fun e=>by have e':v1.heap.size=v1.heap.size+1:=e;omega),q13'.setRow⟩
     clear q13
     go_upto_region 13 with(first | refine wpList_store_row rfl 30 _ _ rfl v1.heap.size (cpA c1) rfl rfl 30 (cpA zc) q12 (bk c1) lp (bw c1) ?_ | refine wpList_store_row rfl 52 _ _ rfl (v1.heap.size+1) (trL T1) rfl rfl 52 #[U κ 0,U κ 0,U κ 0,U κ 0,U κ 0,U κ 0,β false,U κ 0] q13' bn rfl (jr T1) ?_)
     clear q12 q13' lp
     have HLv2:Hid (v1.heap.size=v1.heap.size):=rfl
     obtain ⟨g3,rp,rq⟩:=GG.out
     clear GG HLv2
     obtain ⟨v2,hw6⟩:∃ q,q=(((v1.alloc (ω (cpA zc) 30)).alloc (ω #[U κ 0,U κ 0,U κ 0,U κ 0,U κ 0,U κ 0,β false,U κ 0] 52)).setRow v1.heap.size (cpA c1)).setRow (v1.heap.size+1) (trL T1):=⟨_,rfl⟩
     rw[←hw6] at g3 rp rq ⊢
     clear hw6
     replace HC1:Hid (Cs w v2 gx gc g8 gd #[.slice a0 len cap,.slice a1 len1 cap1,β g,U κ vm,U κ se] O1 M1 M c c):=HC1.out.keep0 g3
     have ra:=ra1.keep g3 (fun h=>h)
     clear g3 ra1
     obtain ⟨gp,hga⟩:∃ q,q=v1.heap.size:=⟨_,rfl⟩
     obtain ⟨gq,hgb⟩:∃ q,q=v1.heap.size+1:=⟨_,rfl⟩
     rw[←hgb] at rq ⊢
     rw[←hga] at rp ⊢
     have HNp:Hid (v1.heap.size≤gp∧gq=gp+1):=(show _∧_ by omega)
     clear hga hgb
     have HC:=HC1
     clear HC1
     obtain ⟨x3,x4⟩:v2.cell? ⟨gx,3,none⟩=some (U κ vm)∧v2.cell? ⟨gx,4,none⟩=some (U κ se):=⟨HC.out.rx.cell 3,HC.out.rx.cell 4⟩
     obtain ⟨y3,y4,y5⟩:v2.cell? ⟨g8,3,none⟩=some (π (some ⟨O1.pr,0,none⟩))∧v2.cell? ⟨g8,4,none⟩=some (π (some ⟨O1.bu,0,none⟩))∧v2.cell? ⟨g8,5,none⟩=some (gu O1.vr):=⟨HC.out.r8.cell 3,HC.out.r8.cell 4,HC.out.r8.cell 5⟩
     have n1:=ra.cell 1
     go_wp2_with (refine bh rfl 30 _ rfl gd rfl (cpA c) _ (p7 HC.out.rd) Tryz.underlying30 rfl (bk c) ?_)
     refine(S2 _ HC.out.r).mono ?_
     rintro e v3 ⟨rfl,f3,d3⟩
     have nd:∀ j,g8≤j→¬ O1.D.s j:=fun j hj e=>by have:=HC.out.t j (Or.inl e);omega
     have HC1:Hid (Cs w v3 gx gc g8 gd #[.slice a0 len cap,.slice a1 len1 cap1,β g,U κ vm,U κ se] O1 M1 M1 c c):=HC.out.runD f3 d3
     replace rp:=rp.keep f3 (nd _ (by have:=HNp.out;have:=HGD1.out;have:=HC.out.g;omega))
     replace rq:=rq.keep f3 (nd _ (by have:=HNp.out;have:=HGD1.out;have:=HC.out.g;omega))
     have HLq:Hid (gq<v3.heap.size):=rq.lt
     clear S2 x3 x4 y3 y4 y5 n1 f3 d3 HC ra nd
     have q12:Row ((v3.alloc (ω (cpA zc) 30)).alloc (ω #[U κ 0,U κ 0,U κ 0,U κ 0,U κ 0,U κ 0,β false,U κ 0] 52)) v3.heap.size (cpA zc) 30:=(ba v3 (cpA zc) 30).alloc _
     have q13:Row ((v3.alloc (ω (cpA zc) 30)).alloc (ω #[U κ 0,U κ 0,U κ 0,U κ 0,U κ 0,U κ 0,β false,U κ 0] 52)) (v3.heap.size+1) #[U κ 0,U κ 0,U κ 0,U κ 0,U κ 0,U κ 0,β false,U κ 0] 52:=dq (by simp)
     have q13':=q13.keep (bb _ v3.heap.size (cpA c1)) (fun e=>by have e':v3.heap.size+1=v3.heap.size:=e;omega)
     have lp:(cpA zc).size=(cpA c1).size:=by rw[bj,bj]
     have GG:Hid (Fr bg v3 ((((v3.alloc (ω (cpA zc) 30)).alloc (ω #[U κ 0,U κ 0,U κ 0,U κ 0,U κ 0,U κ 0,β false,U κ 0] 52)).setRow v3.heap.size (cpA c1)).setRow (v3.heap.size+1) (trL T1))∧Row ((((v3.alloc (ω (cpA zc) 30)).alloc (ω #[U κ 0,U κ 0,U κ 0,U κ 0,U κ 0,U κ 0,β false,U κ 0] 52)).setRow v3.heap.size (cpA c1)).setRow (v3.heap.size+1) (trL T1)) v3.heap.size (cpA c1) 30∧Row ((((v3.alloc (ω (cpA zc) 30)).alloc (ω #[U κ 0,U κ 0,U κ 0,U κ 0,U κ 0,U κ 0,β false,U κ 0] 52)).setRow v3.heap.size (cpA c1)).setRow (v3.heap.size+1) (trL T1)) (v3.heap.size+1) (trL T1) 52):=
      ⟨((((Fr.refl bg v3).alloc _).alloc _).newer (bb _ v3.heap.size (cpA c1)) (Nat.le_refl _)).newer (bb _ (v3.heap.size+1) (trL T1)) (Nat.le_succ _),(q12.setRow).keep (bb _ (v3.heap.size+1) _) (fun e=>by have e':v3.heap.size=v3.heap.size+1:=e;omega),q13'.setRow⟩
     clear q13
     go_upto_region 14 with(first | refine wpList_store_row rfl 30 _ _ rfl v3.heap.size (cpA c1) rfl rfl 30 (cpA zc) q12 (bk c1) lp (bw c1) ?_ | refine wpList_store_row rfl 52 _ _ rfl (v3.heap.size+1) (trL T1) rfl rfl 52 #[U κ 0,U κ 0,U κ 0,U κ 0,U κ 0,U κ 0,β false,U κ 0] q13' bn rfl (jr T1) ?_)
     clear q12 q13' lp
     have HLv4:Hid (v3.heap.size=v3.heap.size):=rfl
     obtain ⟨g3,rs,rt⟩:=GG.out
     clear GG HLv4
     obtain ⟨v4,hw6⟩:∃ q,q=(((v3.alloc (ω (cpA zc) 30)).alloc (ω #[U κ 0,U κ 0,U κ 0,U κ 0,U κ 0,U κ 0,β false,U κ 0] 52)).setRow v3.heap.size (cpA c1)).setRow (v3.heap.size+1) (trL T1):=⟨_,rfl⟩
     rw[←hw6] at g3 rs rt ⊢
     clear hw6
     replace HC1:Hid (Cs w v4 gx gc g8 gd #[.slice a0 len cap,.slice a1 len1 cap1,β g,U κ vm,U κ se] O1 M1 M1 c c):=HC1.out.keep0 g3
     replace rp:=rp.keep g3 (fun h=>h)
     replace rq:=rq.keep g3 (fun h=>h)
     clear g3
     obtain ⟨gs,hga⟩:∃ q,q=v3.heap.size:=⟨_,rfl⟩
     obtain ⟨gt,hgb⟩:∃ q,q=v3.heap.size+1:=⟨_,rfl⟩
     rw[←hgb] at rt ⊢
     rw[←hga] at rs ⊢
     have HNs:Hid (v3.heap.size≤gs∧gt=gs+1):=(show _∧_ by omega)
     clear hga hgb
     have lo:(cpA c).size=(cpA c1).size:=by rw[bj,bj]
     have HPQ:Hid (gd<gp∧gq=gp+1∧gq<gs∧gt=gs+1∧gc<gd∧gd≠gc):=by
      have h1:=HNp.out
      have h2:=HNs.out
      have h3:=HGD1.out
      have h4:=HLq.out
      have h5:=HC1.out.g
      show _∧_∧_∧_∧_∧_
      omega
     have nn:∀ (b:Nat) (j:Nat),j≠b→¬ at' b j:=fun b j h e=>h e
     go_upto_region 15 with(first | refine bh rfl 30 _ rfl gp rfl (cpA c1) _ (p7 rp) Tryz.underlying30 rfl (bk c1) ?_ | refine wpList_store_row rfl 30 _ _ rfl gc (cpA c1) rfl rfl 30 (cpA c) HC1.out.rc (bk c1) lo (bw c1) ?_)
     have HC2:Hid (Cs w (v4.setRow gc (cpA c1)) gx gc g8 gd #[.slice a0 len cap,.slice a1 len1 cap1,β g,U κ vm,U κ se] O1 M1 M1 c1 c):=HC1.out.setC c1
     replace rq:=rq.keep (bb v4 gc (cpA c1)) (nn _ _ (by have:=HPQ.out;omega))
     replace rs:=rs.keep (bb v4 gc (cpA c1)) (nn _ _ (by have:=HPQ.out;omega))
     replace rt:=rt.keep (bb v4 gc (cpA c1)) (nn _ _ (by have:=HPQ.out;omega))
     clear rp HC1
     obtain ⟨v5,hv5⟩:∃ q,q=v4.setRow gc (cpA c1):=⟨_,rfl⟩
     rw[←hv5] at HC2 rq rs rt ⊢
     clear hv5
     go_upto_region 16 with(first | refine bh rfl 30 _ rfl gs rfl (cpA c1) _ (p7 rs) Tryz.underlying30 rfl (bk c1) ?_ | refine wpList_store_row rfl 30 _ _ rfl gd (cpA c1) rfl rfl 30 (cpA c) HC2.out.rd (bk c1) lo (bw c1) ?_)
     have HC3:Hid (Cs w (v5.setRow gd (cpA c1)) gx gc g8 gd #[.slice a0 len cap,.slice a1 len1 cap1,β g,U κ vm,U κ se] O1 M1 M1 c1 c1):=HC2.out.setD c1
     replace rq:=rq.keep (bb v5 gd (cpA c1)) (nn _ _ (by have:=HPQ.out;omega))
     replace rt:=rt.keep (bb v5 gd (cpA c1)) (nn _ _ (by have:=HPQ.out;omega))
     clear rs HC2 lo
     obtain ⟨v6,hv6⟩:∃ q,q=v5.setRow gd (cpA c1):=⟨_,rfl⟩
     rw[←hv6] at HC3 rq rt ⊢
     clear hv6
     have hne:=neq_trap T1
     go_wp2_with (first | refine bh rfl 52 _ rfl gq rfl (trL T1) _ (tr_at rq) Tryz.underlying52 rfl bn ?_ | refine bh rfl 52 _ rfl gt rfl (trL T1) _ (tr_at rt) Tryz.underlying52 rfl bn ?_)
     go_meet
     case rel=>exact ⟨M1,c1,HC3.out,HG2.out⟩
    ·have e1:(dd == 1)=false:=by simpa using h1
     clear h1
     by_cases h2:dd=2
     ·subst h2
      have S1:∀ v,IsMc v O1.B 16 M→Calls pQ 8 #[.agg #[π (some ⟨O1.B.p,0,none⟩),π (some ⟨O1.B.bt,0,none⟩),gu (O1.B.v.map Bk.b)],.agg (cpA c),U κ vm,U κ se,U κ x1] v fun e w'=>∃ (kk:Nat) (M1:Mc) (c1:Cp) (T1:Tr),e=ρ (τ #[.agg (cpA c1),.agg (trL T1),U κ (kk:Nat)])∧Fr O1.B.s v w'∧IsMc w' O1.B 16 M1∧Ran 16 M c vm se (min x1 1000).toNat kk M1 c1 T1∧c1.Ok:=fun v h =>
       Run_all v O1.B 16 M c HD.out.ok vm se x1 h HD.out.few (by have:=HK.out;omega)
      have S2:∀ v,IsMd v O1.D 16 M→Calls pQ 9 #[.agg #[π (some ⟨O1.pr,0,none⟩),π (some ⟨O1.bu,0,none⟩),gu O1.vr],.agg (cpA c),U κ vm,U κ se,U κ x1] v fun e w'=>∃ (kk:Nat) (M1:Mc) (c1:Cp) (T1:Tr),e=ρ (τ #[.agg (cpA c1),.agg (trL T1),U κ (kk:Nat)])∧Fr O1.D.s v w'∧IsMd w' O1.D 16 M1∧Ran 16 M c vm se (min x1 1000).toNat kk M1 c1 T1:=fun v h =>
       dRun_any v O1.D 16 M c HD.out.ok vm se x1 h HD.out.few (by have:=HK.out;omega) HD.out.vz
      obtain ⟨x3,x4⟩:v0.cell? ⟨gx,3,none⟩=some (U κ vm)∧v0.cell? ⟨gx,4,none⟩=some (U κ se):=⟨HC.out.rx.cell 3,HC.out.rx.cell 4⟩
      obtain ⟨y0,y1,y2⟩:v0.cell? ⟨g8,0,none⟩=some (π (some ⟨O1.B.p,0,none⟩))∧v0.cell? ⟨g8,1,none⟩=some (π (some ⟨O1.B.bt,0,none⟩))∧v0.cell? ⟨g8,2,none⟩=some (gu (O1.B.v.map Bk.b)):=⟨HC.out.r8.cell 0,HC.out.r8.cell 1,HC.out.r8.cell 2⟩
      have n1:=ra.cell 1
      go_wp2_with (refine bh rfl 30 _ rfl gc rfl (cpA c) _ (p7 HC.out.rc) Tryz.underlying30 rfl (bk c) ?_)
      refine(S1 _ HC.out.m).mono ?_
      rintro e v1 ⟨kk,M1,c1,T1,rfl,f1,m1,hR,_⟩
      have HG2:Hid (Gd M1 c1 vm (k+1)):=HD.out.ran (by omega) hR
      have HR:Hid (Ran 16 M c vm se (min x1 1000).toNat kk M1 c1 T1):=hR
      clear hR
      have HC1:Hid (Cs w v1 gx gc g8 gd #[.slice a0 len cap,.slice a1 len1 cap1,β g,U κ vm,U κ se] O1 M1 M c c):=HC.out.runP f1 m1
      have ra1:=ra.keep f1 (fun e=>by have:=HC.out.s _ (Or.inl e);have:=HGA.out;have:=HC.out.g;omega)
      have HGD1:Hid (ga<v1.heap.size∧gd<v1.heap.size):=⟨ra1.lt,HC1.out.rd.lt⟩
      clear S1 x3 x4 y0 y1 y2 n1 f1 m1 HC ra
      have q12:Row ((v1.alloc (ω (cpA zc) 30)).alloc (ω #[U κ 0,U κ 0,U κ 0,U κ 0,U κ 0,U κ 0,β false,U κ 0] 52)) v1.heap.size (cpA zc) 30:=(ba v1 (cpA zc) 30).alloc _
      have q13:Row ((v1.alloc (ω (cpA zc) 30)).alloc (ω #[U κ 0,U κ 0,U κ 0,U κ 0,U κ 0,U κ 0,β false,U κ 0] 52)) (v1.heap.size+1) #[U κ 0,U κ 0,U κ 0,U κ 0,U κ 0,U κ 0,β false,U κ 0] 52:=dq (by simp)
      have q13':=q13.keep (bb _ v1.heap.size (cpA c1)) (fun e=>by have e':v1.heap.size+1=v1.heap.size:=e;omega)
      have lp:(cpA zc).size=(cpA c1).size:=by rw[bj,bj]
      have GG:Hid (Fr bg v1 ((((v1.alloc (ω (cpA zc) 30)).alloc (ω #[U κ 0,U κ 0,U κ 0,U κ 0,U κ 0,U κ 0,β false,U κ 0] 52)).setRow v1.heap.size (cpA c1)).setRow (v1.heap.size+1) (trL T1))∧Row ((((v1.alloc (ω (cpA zc) 30)).alloc (ω #[U κ 0,U κ 0,U κ 0,U κ 0,U κ 0,U κ 0,β false,U κ 0] 52)).setRow v1.heap.size (cpA c1)).setRow (v1.heap.size+1) (trL T1)) v1.heap.size (cpA c1) 30∧Row ((((v1.alloc (ω (cpA zc) 30)).alloc (ω #[U κ 0,U κ 0,U κ 0,U κ 0,U κ 0,U κ 0,β false,U κ 0] 52)).setRow v1.heap.size (cpA c1)).setRow (v1.heap.size+1) (trL T1)) (v1.heap.size+1) (trL T1) 52):=
       ⟨((((Fr.refl bg v1).alloc _).alloc _).newer (bb _ v1.heap.size (cpA c1)) (Nat.le_refl _)).newer (bb _ (v1.heap.size+1) (trL T1)) (Nat.le_succ _),(q12.setRow).keep (bb _ (v1.heap.size+1) _) (fun e=>by have e':v1.heap.size=v1.heap.size+1:=e;omega),q13'.setRow⟩
      clear q13
      go_upto_region 20 with(first | refine wpList_store_row rfl 30 _ _ rfl v1.heap.size (cpA c1) rfl rfl 30 (cpA zc) q12 (bk c1) lp (bw c1) ?_ | refine wpList_store_row rfl 52 _ _ rfl (v1.heap.size+1) (trL T1) rfl rfl 52 #[U κ 0,U κ 0,U κ 0,U κ 0,U κ 0,U κ 0,β false,U κ 0] q13' bn rfl (jr T1) ?_)
      clear q12 q13' lp
      have HLv2:Hid (v1.heap.size=v1.heap.size):=rfl
      obtain ⟨g3,rp,rq⟩:=GG.out
      clear GG HLv2
      obtain ⟨v2,hw6⟩:∃ q,q=(((v1.alloc (ω (cpA zc) 30)).alloc (ω #[U κ 0,U κ 0,U κ 0,U κ 0,U κ 0,U κ 0,β false,U κ 0] 52)).setRow v1.heap.size (cpA c1)).setRow (v1.heap.size+1) (trL T1):=⟨_,rfl⟩
      rw[←hw6] at g3 rp rq ⊢
      clear hw6
      replace HC1:Hid (Cs w v2 gx gc g8 gd #[.slice a0 len cap,.slice a1 len1 cap1,β g,U κ vm,U κ se] O1 M1 M c c):=HC1.out.keep0 g3
      have ra:=ra1.keep g3 (fun h=>h)
      clear g3 ra1
      obtain ⟨gp,hga⟩:∃ q,q=v1.heap.size:=⟨_,rfl⟩
      obtain ⟨gq,hgb⟩:∃ q,q=v1.heap.size+1:=⟨_,rfl⟩
      rw[←hgb] at rq ⊢
      rw[←hga] at rp ⊢
      have HNp:Hid (v1.heap.size≤gp∧gq=gp+1):=(show _∧_ by omega)
      clear hga hgb
      have HC:=HC1
      clear HC1
      obtain ⟨x3,x4⟩:v2.cell? ⟨gx,3,none⟩=some (U κ vm)∧v2.cell? ⟨gx,4,none⟩=some (U κ se):=⟨HC.out.rx.cell 3,HC.out.rx.cell 4⟩
      obtain ⟨y3,y4,y5⟩:v2.cell? ⟨g8,3,none⟩=some (π (some ⟨O1.pr,0,none⟩))∧v2.cell? ⟨g8,4,none⟩=some (π (some ⟨O1.bu,0,none⟩))∧v2.cell? ⟨g8,5,none⟩=some (gu O1.vr):=⟨HC.out.r8.cell 3,HC.out.r8.cell 4,HC.out.r8.cell 5⟩
      have n1:=ra.cell 1
      go_wp2_with (refine bh rfl 30 _ rfl gd rfl (cpA c) _ (p7 HC.out.rd) Tryz.underlying30 rfl (bk c) ?_)
      refine(S2 _ HC.out.r).mono ?_
      rintro e v3 ⟨kk2,M2,c2,T2,rfl,f3,d3,hR2⟩
      obtain ⟨rfl,rfl,rfl,rfl⟩:=HR.out.one hR2
      clear hR2 HR
      have nd:∀ j,g8≤j→¬ O1.D.s j:=fun j hj e=>by have:=HC.out.t j (Or.inl e);omega
      have HC1:Hid (Cs w v3 gx gc g8 gd #[.slice a0 len cap,.slice a1 len1 cap1,β g,U κ vm,U κ se] O1 M1 M1 c c):=HC.out.runD f3 d3
      replace rp:=rp.keep f3 (nd _ (by have:=HNp.out;have:=HGD1.out;have:=HC.out.g;omega))
      replace rq:=rq.keep f3 (nd _ (by have:=HNp.out;have:=HGD1.out;have:=HC.out.g;omega))
      have HLq:Hid (gq<v3.heap.size):=rq.lt
      clear S2 x3 x4 y3 y4 y5 n1 f3 d3 HC ra nd
      have q12:Row ((v3.alloc (ω (cpA zc) 30)).alloc (ω #[U κ 0,U κ 0,U κ 0,U κ 0,U κ 0,U κ 0,β false,U κ 0] 52)) v3.heap.size (cpA zc) 30:=(ba v3 (cpA zc) 30).alloc _
      have q13:Row ((v3.alloc (ω (cpA zc) 30)).alloc (ω #[U κ 0,U κ 0,U κ 0,U κ 0,U κ 0,U κ 0,β false,U κ 0] 52)) (v3.heap.size+1) #[U κ 0,U κ 0,U κ 0,U κ 0,U κ 0,U κ 0,β false,U κ 0] 52:=dq (by simp)
      have q13':=q13.keep (bb _ v3.heap.size (cpA c1)) (fun e=>by have e':v3.heap.size+1=v3.heap.size:=e;omega)
      have lp:(cpA zc).size=(cpA c1).size:=by rw[bj,bj]
      have GG:Hid (Fr bg v3 ((((v3.alloc (ω (cpA zc) 30)).alloc (ω #[U κ 0,U κ 0,U κ 0,U κ 0,U κ 0,U κ 0,β false,U κ 0] 52)).setRow v3.heap.size (cpA c1)).setRow (v3.heap.size+1) (trL T1))∧Row ((((v3.alloc (ω (cpA zc) 30)).alloc (ω #[U κ 0,U κ 0,U κ 0,U κ 0,U κ 0,U κ 0,β false,U κ 0] 52)).setRow v3.heap.size (cpA c1)).setRow (v3.heap.size+1) (trL T1)) v3.heap.size (cpA c1) 30∧Row ((((v3.alloc (ω (cpA zc) 30)).alloc (ω #[U κ 0,U κ 0,U κ 0,U κ 0,U κ 0,U κ 0,β false,U κ 0] 52)).setRow v3.heap.size (cpA c1)).setRow (v3.heap.size+1) (trL T1)) (v3.heap.size+1) (trL T1) 52):=
       ⟨((((Fr.refl bg v3).alloc _).alloc _).newer (bb _ v3.heap.size (cpA c1)) (Nat.le_refl _)).newer (bb _ (v3.heap.size+1) (trL T1)) (Nat.le_succ _),(q12.setRow).keep (bb _ (v3.heap.size+1) _) (fun e=>by have e':v3.heap.size=v3.heap.size+1:=e;omega),q13'.setRow⟩
      clear q13
      go_upto_region 21 with(first | refine wpList_store_row rfl 30 _ _ rfl v3.heap.size (cpA c1) rfl rfl 30 (cpA zc) q12 (bk c1) lp (bw c1) ?_ | refine wpList_store_row rfl 52 _ _ rfl (v3.heap.size+1) (trL T1) rfl rfl 52 #[U κ 0,U κ 0,U κ 0,U κ 0,U κ 0,U κ 0,β false,U κ 0] q13' bn rfl (jr T1) ?_)
      clear q12 q13' lp
      have HLv4:Hid (v3.heap.size=v3.heap.size):=rfl
      obtain ⟨g3,rs,rt⟩:=GG.out
      clear GG HLv4
      obtain ⟨v4,hw6⟩:∃ q,q=(((v3.alloc (ω (cpA zc) 30)).alloc (ω #[U κ 0,U κ 0,U κ 0,U κ 0,U κ 0,U κ 0,β false,U κ 0] 52)).setRow v3.heap.size (cpA c1)).setRow (v3.heap.size+1) (trL T1):=⟨_,rfl⟩
      rw[←hw6] at g3 rs rt ⊢
      clear hw6
      replace HC1:Hid (Cs w v4 gx gc g8 gd #[.slice a0 len cap,.slice a1 len1 cap1,β g,U κ vm,U κ se] O1 M1 M1 c c):=HC1.out.keep0 g3
      replace rp:=rp.keep g3 (fun h=>h)
      replace rq:=rq.keep g3 (fun h=>h)
      clear g3
      obtain ⟨gs,hga⟩:∃ q,q=v3.heap.size:=⟨_,rfl⟩
      obtain ⟨gt,hgb⟩:∃ q,q=v3.heap.size+1:=⟨_,rfl⟩
      rw[←hgb] at rt ⊢
      rw[←hga] at rs ⊢
      have HNs:Hid (v3.heap.size≤gs∧gt=gs+1):=(show _∧_ by omega)
      clear hga hgb
      have lo:(cpA c).size=(cpA c1).size:=by rw[bj,bj]
      have HPQ:Hid (gd<gp∧gq=gp+1∧gq<gs∧gt=gs+1∧gc<gd∧gd≠gc):=by
       have h1:=HNp.out
       have h2:=HNs.out
       have h3:=HGD1.out
       have h4:=HLq.out
       have h5:=HC1.out.g
       show _∧_∧_∧_∧_∧_
       omega
      have nn:∀ (b:Nat) (j:Nat),j≠b→¬ at' b j:=fun b j h e=>h e
      go_upto_region 22 with(first | refine bh rfl 30 _ rfl gp rfl (cpA c1) _ (p7 rp) Tryz.underlying30 rfl (bk c1) ?_ | refine wpList_store_row rfl 30 _ _ rfl gc (cpA c1) rfl rfl 30 (cpA c) HC1.out.rc (bk c1) lo (bw c1) ?_)
      have HC2:Hid (Cs w (v4.setRow gc (cpA c1)) gx gc g8 gd #[.slice a0 len cap,.slice a1 len1 cap1,β g,U κ vm,U κ se] O1 M1 M1 c1 c):=HC1.out.setC c1
      replace rq:=rq.keep (bb v4 gc (cpA c1)) (nn _ _ (by have:=HPQ.out;omega))
      replace rs:=rs.keep (bb v4 gc (cpA c1)) (nn _ _ (by have:=HPQ.out;omega))
      replace rt:=rt.keep (bb v4 gc (cpA c1)) (nn _ _ (by have:=HPQ.out;omega))
      clear rp HC1
      obtain ⟨v5,hv5⟩:∃ q,q=v4.setRow gc (cpA c1):=⟨_,rfl⟩
      rw[←hv5] at HC2 rq rs rt ⊢
      clear hv5
      go_upto_region 23 with(first | refine bh rfl 30 _ rfl gs rfl (cpA c1) _ (p7 rs) Tryz.underlying30 rfl (bk c1) ?_ | refine wpList_store_row rfl 30 _ _ rfl gd (cpA c1) rfl rfl 30 (cpA c) HC2.out.rd (bk c1) lo (bw c1) ?_)
      have HC3:Hid (Cs w (v5.setRow gd (cpA c1)) gx gc g8 gd #[.slice a0 len cap,.slice a1 len1 cap1,β g,U κ vm,U κ se] O1 M1 M1 c1 c1):=HC2.out.setD c1
      replace rq:=rq.keep (bb v5 gd (cpA c1)) (nn _ _ (by have:=HPQ.out;omega))
      replace rt:=rt.keep (bb v5 gd (cpA c1)) (nn _ _ (by have:=HPQ.out;omega))
      clear rs HC2 lo
      obtain ⟨v6,hv6⟩:∃ q,q=v5.setRow gd (cpA c1):=⟨_,rfl⟩
      rw[←hv6] at HC3 rq rt ⊢
      clear hv6
      have hne:=neq_trap T1
      go_wp2_with (first | refine bh rfl 52 _ rfl gq rfl (trL T1) _ (tr_at rq) Tryz.underlying52 rfl bn ?_ | refine bh rfl 52 _ rfl gt rfl (trL T1) _ (tr_at rt) Tryz.underlying52 rfl bn ?_)
      go_meet
      case rel=>exact ⟨M1,c1,HC3.out,HG2.out⟩
     ·have e2:(dd == 2)=false:=by simpa using h2
      clear h2
      by_cases h3:dd=3
      ·subst h3
       cases hv:O1.B.v with
       | none =>
        have y2:v0.cell? ⟨g8,2,none⟩=some (π none):=by
         have q:v0.cell? ⟨g8,2,none⟩=some (gu (O1.B.v.map Bk.b)):=HC.out.r8.cell 2
         rw[hv] at q
         exact q
        clear hv
        go_wp2_with fail
        go_meet
        case rel=>exact ⟨M,c,HC.out,HD.out.more⟩
       | some B =>
        have y2:v0.cell? ⟨g8,2,none⟩=some (π (some ⟨B.b,0,none⟩)):=by
         have q:v0.cell? ⟨g8,2,none⟩=some (gu (O1.B.v.map Bk.b)):=HC.out.r8.cell 2
         rw[hv] at q
         exact q
        have hvg:=HC.out.m.vg
        rw[hv] at hvg
        obtain ⟨S,hS⟩:∃ S,M.V=some S:=by
         cases hq:M.V with
         | none=>rw[hq] at hvg;exact hvg.elim
         | some S=>exact ⟨S,rfl⟩
        rw[hS] at hvg
        obtain ⟨b,hb⟩:∃ b,O1.vr=some b:=by
         have q:=HC.out.r.v.same
         rw[hS] at q
         exact Option.isSome_iff_exists.1 q
        have HV:Hid (M.V=some S∧O1.vr=some b∧O1.B.v=some B):=⟨hS,hb,hv⟩
        have SI:=inject_any v0 B S hvg x1 x2 on
        obtain ⟨S2,hS2⟩:∃ q,injS S x1 x2 on=q:=⟨_,rfl⟩
        obtain ⟨E2,hE2⟩:∃ q,injE S x1 x2=q:=⟨_,rfl⟩
        rw[hS2,hE2] at SI
        have SJ:∀ v,IsMd v O1.D 16 M→Calls pQ 11 #[π (some ⟨b,0,none⟩),U κ x1,U κ x2,β on] v fun e w'=>e=ρ (U κ E2)∧Rch v b S2 w':=fun v h=>by
         have q:=h.v
         rw[HV.out.1] at q
         change RvO v O1.vr (some S) at q
         rw[HV.out.2.1] at q
         have r:=rinject_any v b S q x1 x2 on
         rw[hS2,hE2] at r
         exact r
        have hnn:(E2 != E2)=false:=by simp
        clear hvg hS hb hv hS2 hE2
        have n1:=ra.cell 1
        have n2:=ra.cell 2
        have n3:=ra.cell 3
        go_wp2_with fail
        refine SI.mono ?_
        rintro e v1 ⟨rfl,ch⟩
        have HC1:Hid (Cs w v1 gx gc g8 gd #[.slice a0 len cap,.slice a1 len1 cap1,β g,U κ vm,U κ se] O1 { M with V:=some S2 } M c c):=HC.out.injP HV.out.2.2 ch
        have ra1:=ra.keep ch.1 (fun e=>by have:=HC.out.s _ (Or.inl (Or.inr (Or.inr (bm_g HV.out.2.2 e))));have:=HGA.out;have:=HC.out.g;omega)
        clear SI ch y2 n1 n2 n3 HC ra
        have HC:=HC1
        have ra:=ra1
        clear HC1 ra1
        have y5:v1.cell? ⟨g8,5,none⟩=some (π (some ⟨b,0,none⟩)):=by
         have q:v1.cell? ⟨g8,5,none⟩=some (gu O1.vr):=HC.out.r8.cell 5
         rw[HV.out.2.1] at q
         exact q
        have n1:=ra.cell 1
        have n2:=ra.cell 2
        have n3:=ra.cell 3
        go_wp2_with fail
        refine(SJ _ HC.out.r).mono ?_
        rintro e v2 ⟨rfl,ch⟩
        have HC1:Hid (Cs w v2 gx gc g8 gd #[.slice a0 len cap,.slice a1 len1 cap1,β g,U κ vm,U κ se] O1 { M with V:=some S2 } { M with V:=some S2 } c c):=HC.out.injD HV.out.2.1 ch
        clear SJ ch y5 n1 n2 n3 HC ra
        go_wp2_with fail
        go_meet
        case rel=>exact ⟨_,c,HC1.out,HD.out.inj (some S2)⟩
      ·have e3:(dd == 3)=false:=by simpa using h3
       clear h3
       by_cases h4:dd=4
       ·subst h4
        obtain ⟨y0,y1,y2⟩:v0.cell? ⟨g8,0,none⟩=some (π (some ⟨O1.B.p,0,none⟩))∧v0.cell? ⟨g8,1,none⟩=some (π (some ⟨O1.B.bt,0,none⟩))∧v0.cell? ⟨g8,2,none⟩=some (gu (O1.B.v.map Bk.b)):=⟨HC.out.r8.cell 0,HC.out.r8.cell 1,HC.out.r8.cell 2⟩
        obtain ⟨y3,y4,y5⟩:v0.cell? ⟨g8,3,none⟩=some (π (some ⟨O1.pr,0,none⟩))∧v0.cell? ⟨g8,4,none⟩=some (π (some ⟨O1.bu,0,none⟩))∧v0.cell? ⟨g8,5,none⟩=some (gu O1.vr):=⟨HC.out.r8.cell 3,HC.out.r8.cell 4,HC.out.r8.cell 5⟩
        have n1:=ra.cell 1
        go_wp2_with fail
        refine(evict_any v0 O1.B.bt _ _ _ HC.out.m.tlb x1).mono ?_
        rintro e v1 ⟨rfl,f1,t1⟩
        have HC1:Hid (Cs w v1 gx gc g8 gd #[.slice a0 len cap,.slice a1 len1 cap1,β g,U κ vm,U κ se] O1 (evM M x1) M c c):=HC.out.evP f1 t1
        have ra1:=ra.keep f1 (fun e=>by have:=HC.out.s _ (Or.inl (Or.inr (Or.inl e)));have:=HGA.out;have:=HC.out.g;omega)
        clear y0 y1 y2 y3 y4 y5 n1 f1 t1 HC ra
        have HC:=HC1
        have ra:=ra1
        clear HC1 ra1
        obtain ⟨y0,y1,y2⟩:v1.cell? ⟨g8,0,none⟩=some (π (some ⟨O1.B.p,0,none⟩))∧v1.cell? ⟨g8,1,none⟩=some (π (some ⟨O1.B.bt,0,none⟩))∧v1.cell? ⟨g8,2,none⟩=some (gu (O1.B.v.map Bk.b)):=⟨HC.out.r8.cell 0,HC.out.r8.cell 1,HC.out.r8.cell 2⟩
        obtain ⟨y3,y4,y5⟩:v1.cell? ⟨g8,3,none⟩=some (π (some ⟨O1.pr,0,none⟩))∧v1.cell? ⟨g8,4,none⟩=some (π (some ⟨O1.bu,0,none⟩))∧v1.cell? ⟨g8,5,none⟩=some (gu O1.vr):=⟨HC.out.r8.cell 3,HC.out.r8.cell 4,HC.out.r8.cell 5⟩
        have n1:=ra.cell 1
        go_wp2_with fail
        refine(revict_any v1 O1.bu _ _ _ HC.out.r.t x1).mono ?_
        rintro e v2 ⟨rfl,f1,t1⟩
        have HC1:Hid (Cs w v2 gx gc g8 gd #[.slice a0 len cap,.slice a1 len1 cap1,β g,U κ vm,U κ se] O1 (evM M x1) (evM M x1) c c):=HC.out.evD f1 t1
        clear y0 y1 y2 y3 y4 y5 n1 f1 t1 HC ra
        go_wp2_with fail
        go_meet
        case rel=>exact ⟨_,c,HC1.out,HD.out.ev x1⟩
       ·have e4:(dd == 4)=false:=by simpa using h4
        clear h4
        go_wp2_with fail
        go_meet
        case rel=>exact ⟨M,c,HC.out,HD.out.more⟩
   case rest =>
    clear HC HD ra
    obtain ⟨M1,c1,HH⟩:=hcut
    have HC:Hid (Cs w wc gx gc g8 gd #[.slice a0 len cap,.slice a1 len1 cap1,β g,U κ vm,U κ se] O1 M1 M1 c1 c1):=HH.out.1
    have HD:Hid (Gd M1 c1 vm (k+1)):=HH.out.2
    clear HH
    have P1:=fun v=>space_any v O1.B.p O1.B.bt (O1.B.v.map Bk.b) c1 HD.out.ok vm se
    have P2:=fun v=>ku v O1.pr O1.bu O1.vr c1 HD.out.ok vm se
    have hsv:(O1.B.v.map Bk.b).isSome=M1.V.isSome:=by rw[Option.isSome_map];exact HC.out.m.vg.same
    have hrv:O1.vr.isSome=M1.V.isSome:=HC.out.r.v.same
    rw[hsv] at P1
    rw[hrv] at P2
    clear hsv hrv
    obtain ⟨sd,hsd⟩:∃ q,spA M1.V.isSome c1=q:=⟨_,rfl⟩
    obtain ⟨fi,hfi⟩:∃ q,spF M1.V.isSome c1=q:=⟨_,rfl⟩
    rw[hsd,hfi] at P1 P2
    clear hsd hfi
    obtain ⟨x3,x4⟩:wc.cell? ⟨gx,3,none⟩=some (U κ vm)∧wc.cell? ⟨gx,4,none⟩=some (U κ se):=⟨HC.out.rx.cell 3,HC.out.rx.cell 4⟩
    obtain ⟨y0,y1,y2⟩:wc.cell? ⟨g8,0,none⟩=some (π (some ⟨O1.B.p,0,none⟩))∧wc.cell? ⟨g8,1,none⟩=some (π (some ⟨O1.B.bt,0,none⟩))∧wc.cell? ⟨g8,2,none⟩=some (gu (O1.B.v.map Bk.b)):=⟨HC.out.r8.cell 0,HC.out.r8.cell 1,HC.out.r8.cell 2⟩
    go_wp2_with (refine bh rfl 30 _ rfl gc rfl (cpA c1) _ (p7 HC.out.rc) Tryz.underlying30 rfl (bk c1) ?_)
    refine(P1 wc).mono ?_
    rintro e v1 ⟨rfl,f1⟩
    have f2:=f1.alloc (ω #[U κ vm,U κ sd,U κ fi,U κ se] 63)
    have HC1:Hid (Cs w (v1.alloc (ω #[U κ vm,U κ sd,U κ fi,U κ se] 63)) gx gc g8 gd #[.slice a0 len cap,.slice a1 len1 cap1,β g,U κ vm,U κ se] O1 M1 M1 c1 c1):=HC.out.keep0 f2
    have rP:=ba v1 #[U κ vm,U κ sd,U κ fi,U κ se] 63
    clear P1 x3 x4 y0 y1 y2 f1 f2 HC
    go_upto_region 35 with fail
    obtain ⟨v2,hv2⟩:∃ q,q=v1.alloc (ω #[U κ vm,U κ sd,U κ fi,U κ se] 63):=⟨_,rfl⟩
    rw[←hv2] at HC1 rP ⊢
    clear hv2
    obtain ⟨gP,hgP⟩:∃ q,q=v1.heap.size:=⟨_,rfl⟩
    rw[←hgP] at rP ⊢
    clear hgP
    have HC:=HC1
    clear HC1
    obtain ⟨x3,x4⟩:v2.cell? ⟨gx,3,none⟩=some (U κ vm)∧v2.cell? ⟨gx,4,none⟩=some (U κ se):=⟨HC.out.rx.cell 3,HC.out.rx.cell 4⟩
    obtain ⟨y3,y4,y5⟩:v2.cell? ⟨g8,3,none⟩=some (π (some ⟨O1.pr,0,none⟩))∧v2.cell? ⟨g8,4,none⟩=some (π (some ⟨O1.bu,0,none⟩))∧v2.cell? ⟨g8,5,none⟩=some (gu O1.vr):=⟨HC.out.r8.cell 3,HC.out.r8.cell 4,HC.out.r8.cell 5⟩
    go_wp2_with (refine bh rfl 30 _ rfl gd rfl (cpA c1) _ (p7 HC.out.rd) Tryz.underlying30 rfl (bk c1) ?_)
    refine(P2 v2).mono ?_
    rintro e v3 ⟨rfl,f3⟩
    have f4:=f3.alloc (ω #[U κ vm,U κ sd,U κ fi,U κ se] 63)
    have HC1:Hid (Cs w (v3.alloc (ω #[U κ vm,U κ sd,U κ fi,U κ se] 63)) gx gc g8 gd #[.slice a0 len cap,.slice a1 len1 cap1,β g,U κ vm,U κ se] O1 M1 M1 c1 c1):=HC.out.keep0 f4
    replace rP:=rP.keep f4 (fun h=>h)
    have rQ:=ba v3 #[U κ vm,U κ sd,U κ fi,U κ se] 63
    clear P2 x3 x4 y3 y4 y5 f3 f4 HC
    go_upto_region 36 with fail
    obtain ⟨v4,hv4⟩:∃ q,q=v3.alloc (ω #[U κ vm,U κ sd,U κ fi,U κ se] 63):=⟨_,rfl⟩
    rw[←hv4] at HC1 rP rQ ⊢
    clear hv4
    obtain ⟨gQ,hgQ⟩:∃ q,q=v3.heap.size:=⟨_,rfl⟩
    rw[←hgQ] at rQ ⊢
    clear hgQ
    have HC:=HC1
    clear HC1
    go_wp2_with (refine bh rfl 44 _ rfl g8 rfl O1.a _ (bo_at HC.out.r8) Tryz.underlying44 rfl wy ?_)
    refine(dsame_any v4 O1 M1 HC.out.m HC.out.r).mono ?_
    rintro e v5 ⟨rfl,f5⟩
    have HC1:Hid (Cs w v5 gx gc g8 gd #[.slice a0 len cap,.slice a1 len1 cap1,β g,U κ vm,U κ se] O1 M1 M1 c1 c1):=HC.out.keep0 f5
    replace rP:=rP.keep f5 (fun h=>h)
    replace rQ:=rQ.keep f5 (fun h=>h)
    clear f5 HC
    obtain ⟨p0,p1,p2,p3⟩:v5.cell? ⟨gP,0,none⟩=some (U κ vm)∧v5.cell? ⟨gP,1,none⟩=some (U κ sd)∧v5.cell? ⟨gP,2,none⟩=some (U κ fi)∧v5.cell? ⟨gP,3,none⟩=some (U κ se):=⟨rP.cell 0,rP.cell 1,rP.cell 2,rP.cell 3⟩
    obtain ⟨q0,q1,q2,q3⟩:v5.cell? ⟨gQ,0,none⟩=some (U κ vm)∧v5.cell? ⟨gQ,1,none⟩=some (U κ sd)∧v5.cell? ⟨gQ,2,none⟩=some (U κ fi)∧v5.cell? ⟨gQ,3,none⟩=some (U κ se):=⟨rQ.cell 0,rQ.cell 1,rQ.cell 2,rQ.cell 3⟩
    have hnc:∀ W,(binOp .neq 30 (.agg (cpA c1)) (.agg (cpA c1))).run pQ W=.ok (β false) W:=fun W=>by rw[neq_cpu,ceq_self];rfl
    have hns:=neq_space vm sd fi se
    clear rP rQ
    have hk60:k<60:=HK.out
    go_wp2_with (first | refine bh rfl 30 _ rfl gc rfl (cpA c1) _ (p7 HC1.out.rc) Tryz.underlying30 rfl (bk c1) ?_ | refine bh rfl 30 _ rfl gd rfl (cpA c1) _ (p7 HC1.out.rd) Tryz.underlying30 rfl (bk c1) ?_)
    go_roundw
    case rel=>exact ⟨k+1,M1,c1,by omega,by go_num,HC1.out,HD.out⟩
    case measure=>simp[intOf];omega
  ·have HE:Hid (Fr bg w wr):=HH.out.1.f
   have hcs:(¬ k<len2)∨(k<len2∧¬ k<60):=by omega
   clear hin HH
   rcases hcs with h | ⟨h,h'⟩
   ·have u1:decide ((k:Int)<(len2:Int))=false:=decide_eq_false (by omega)
    go_wp2_with fail
    go_ret
    exact ⟨rfl,HE.out⟩
   ·have u1:decide ((k:Int)<(len2:Int))=true:=decide_eq_true (by omega)
    have u2:decide ((k:Int)<60)=false:=decide_eq_false (by omega)
    go_wp2_with fail
    go_ret
    exact ⟨rfl,HE.out⟩
end Go.Proofs.YtibhbjbpodlpiaaGreat
