/-
  Contracts over the translation. No statement is proved here.
-/
import Derived.Deep.CutRange
import Derived.Test.YtibhbjbpodlpiaaGreatQJL
import Derived.Test.YtibhbjbpodlpiaaGreatQWalkReachC
set_option maxRecDepth 100000
set_option maxHeartbeats 8000000
namespace Go.Proofs.YtibhbjbpodlpiaaGreat
open Go.RowKit
open Go.Value renaming int → U, bool → β, pointer → π, tuple → τ
open Go.IntKind renaming i64 → κ, u32 → μ
open Go.Obj renaming cells → ω
open Go.Ending renaming returned → ρ
open Go.Proofs.Tryz renaming prog → pQ
theorem so (w:World) (B:Bm) (nf bx:Nat) (M:Mc) (X:Wk) (bc fn:Nat) (g:Nat→Nat→Bool) (hc:w.cell? ⟨bc,0,none⟩=some (.func (.func fn) #[] #[]))
  (hen:∀ (args:Array Value) (w1:World),(callFunc fn args).run pQ w1=.ok (.enter fn args) w1)
  (hF:∀ (a b:Nat) (w1:World),Calls pQ fn #[U μ (a:Int),U μ (b:Int)] w1 fun e w'=>e=ρ (β (g a b))∧w'=w1)
  (h:Jb w B nf bx M X) :
  Calls pQ 117 #[π (some ⟨bx,0,none⟩),π (some ⟨bc,0,none⟩)] w (Aft w B nf bx M { X with z:=if g (X.z.r X.a) (X.z.r X.b)=true then X.z.setP X.imm else X.z }):=by
 have hF':=fun w1=>hF (X.z.r X.a) (X.z.r X.b) w1
 have hA:=fun n=>a_any (w.drewN n) bx X (h.x.drewN n) h.a
 have hB:=fun n=>b_any (w.drewN n) bx X (h.x.drewN n) h.b
 have HJ:Hid (Jb w B nf bx M X):=h
 clear hF h
 cases hy:g (X.z.r X.a) (X.z.r X.b) with
 | true =>
  rw[hy] at hF'
  go_enter Tryz.func117,Tryz.ntmps117
  go_wp2_with fail
  go_quiet (first | (go_at_call 116;refine Calls.quiet_of (hA _)) | (go_at_call 112;refine Calls.quiet_of (hB _)) | (refine Calls.quiet_of_same (hF' _)))
  go_wp2_with fail
  refine(jump_any _ B nf bx M X (HJ.out.keep0 (bo _ _))).mono ?_
  rintro e v2 ⟨⟨u,rfl⟩,f2,h2⟩
  go_wp2_with fail
  refine j9 rfl rfl fun u=>?_
  exact ⟨⟨u,rfl⟩,(ro (bo _ _)).trans f2,h2⟩
 | false =>
  rw[hy] at hF'
  go_enter Tryz.func117,Tryz.ntmps117
  go_wp2_with fail
  go_quiet (first | (go_at_call 116;refine Calls.quiet_of (hA _)) | (go_at_call 112;refine Calls.quiet_of (hB _)) | (refine Calls.quiet_of_same (hF' _)))
  go_wp2_with fail
  refine j9 rfl rfl fun u=>?_
  exact ⟨⟨u,rfl⟩,ro (bo _ _),HJ.out.keep0 (bo _ _)⟩
def gAdd (a b:Nat):Nat:=(a+b)%4294967296
def gSub (a b:Nat):Nat:=(a+4294967296-b)%4294967296
def gAnd (a b:Nat):Nat:=a &&& b
def gXor (a b:Nat):Nat:=a ^^^ b
def gShl (a b:Nat):Nat:=a*2 ^ (b%32)%4294967296
theorem gAdd_lt (a b:Nat):gAdd a b<4294967296:=by unfold gAdd;omega
theorem gSub_lt (a b:Nat):gSub a b<4294967296:=by unfold gSub;omega
theorem gAnd_lt (a b:Nat) (ha:a<4294967296):gAnd a b<4294967296:=Nat.lt_of_le_of_lt Nat.and_le_left ha
theorem gXor_lt (a b:Nat) (ha:a<4294967296) (hb:b<4294967296):gXor a b<4294967296:=Nat.xor_lt_two_pow (n:=32) ha hb
theorem gShl_lt (a b:Nat):gShl a b<4294967296:=by unfold gShl;omega
theorem tx {a b:Int} (h:a=b):Ending.returned (U μ a)=ρ (U μ b):=by rw[h]
theorem op1_any (a b:Nat) (w:World):Calls pQ 61 #[U μ (a:Int),U μ (b:Int)] w fun e w'=>e=ρ (U μ ((gAdd a b:Nat):Int))∧w'=w:=by
 go_enter Tryz.func61,Tryz.ntmps61
 go_wp2_with fail
 go_ret
 exact ⟨tx (by unfold gAdd;omega),rfl⟩
theorem op2_any (a b:Nat) (w:World) (ha:a<4294967296) (hb:b<4294967296):Calls pQ 62 #[U μ (a:Int),U μ (b:Int)] w fun e w'=>e=ρ (U μ ((gSub a b:Nat):Int))∧w'=w:=by
 go_enter Tryz.func62,Tryz.ntmps62
 go_wp2_with fail
 go_ret
 exact ⟨tx (by unfold gSub;omega),rfl⟩
theorem op3_any (a b:Nat) (w:World) (ha:a<4294967296) (hb:b<4294967296):Calls pQ 63 #[U μ (a:Int),U μ (b:Int)] w fun e w'=>e=ρ (U μ ((gAnd a b:Nat):Int))∧w'=w:=by
 have e1:=u32_and_nat a b ha hb
 go_enter Tryz.func63,Tryz.ntmps63
 go_wp2_with fail
 go_ret
 exact ⟨rfl,rfl⟩
theorem op4_any (a b:Nat) (w:World) (ha:a<4294967296) (hb:b<4294967296):Calls pQ 64 #[U μ (a:Int),U μ (b:Int)] w fun e w'=>e=ρ (U μ ((gXor a b:Nat):Int))∧w'=w:=by
 have e1:=u32_xor_nat a b ha hb
 go_enter Tryz.func64,Tryz.ntmps64
 go_wp2_with fail
 go_ret
 exact ⟨rfl,rfl⟩
theorem op5_any (a b:Nat) (w:World) (_ha:a<4294967296) (hb:b<4294967296):Calls pQ 65 #[U μ (a:Int),U μ (b:Int)] w fun e w'=>e=ρ (U μ ((gShl a b:Nat):Int))∧w'=w:=by
 go_enter Tryz.func65,Tryz.ntmps65
 go_wp2_with fail
 go_ret
 exact ⟨rfl,rfl⟩
theorem op6_any (a b:Nat) (w:World):Calls pQ 69 #[U μ (a:Int),U μ (b:Int)] w fun e w'=>e=ρ (β (decide (a=b)))∧w'=w:=by
 go_enter Tryz.func69,Tryz.ntmps69
 go_wp2_with fail
 go_ret
 exact ⟨jk (by first | rfl | (rw[Bool.eq_iff_iff];simp;omega)),rfl⟩
theorem op7_any (a b:Nat) (w:World):Calls pQ 70 #[U μ (a:Int),U μ (b:Int)] w fun e w'=>e=ρ (β (!decide (a=b)))∧w'=w:=by
 go_enter Tryz.func70,Tryz.ntmps70
 go_wp2_with fail
 go_ret
 exact ⟨jk (by first | rfl | (rw[Bool.eq_iff_iff];simp;omega)),rfl⟩
theorem op8_any (a b:Nat) (w:World):Calls pQ 71 #[U μ (a:Int),U μ (b:Int)] w fun e w'=>e=ρ (β (decide (a<b)))∧w'=w:=by
 go_enter Tryz.func71,Tryz.ntmps71
 go_wp2_with fail
 go_ret
 exact ⟨jk (by first | rfl | (rw[Bool.eq_iff_iff];simp;omega)),rfl⟩
theorem call1_any (w:World) (B:Bm) (nf bx:Nat) (M:Mc) (X:Wk) (bc:Nat) (ca:Int) (hc:w.cell? ⟨bc,0,none⟩=some (U κ ca)) (h:Jb w B nf bx M X) :
  Calls pQ 118 #[π (some ⟨bx,0,none⟩),π (some ⟨bc,0,none⟩)] w (Don w B nf bx M X ⟨ca,X.imm,X.pc,f0⟩):=by
 have f1:=(Fr.refl bg w).alloc (ω (trL t0) 52)
 have h1:=h.alloc (ω (trL t0) 52)
 have r1:=ba w (trL t0) 52
 have c1:=cd f1 hc (fun h=>h)
 have c14:=h1.x.k14
 have n1:¬ at' w.heap.size bc:=fun e=>by have e':bc=w.heap.size:=e;have:=qe hc;have:bc<w.heap.size:=this;omega
 have n2:¬ at' w.heap.size bx:=fun e=>by have e':bx=w.heap.size:=e;have:=h.x.lt;omega
 have L:Hid (∀ k,B.y bx k→k<w.heap.size):=h.lty
 have HJ:Hid (Jb (w.alloc (ω (trL t0) 52)) B nf bx M X):=h1
 clear hc h h1
 unfold trL t0 f0 at c1 f1 r1 HJ c14
 go_enter Tryz.func118,Tryz.ntmps118
 go_wp2_with fail
 obtain ⟨v0,hv0⟩:∃ v0,v0=w.alloc (ω #[U κ 0,U κ 0,U κ 0,U κ 0,U κ 0,U κ 0,β false,U κ 0] 52):=⟨_,rfl⟩
 rw[←hv0] at c1 c14 r1 f1 HJ ⊢
 clear hv0
 have e1:v0.drew.cell? ⟨bc,0,none⟩=_:=c1
 have e14:v0.drew.cell? ⟨bx,14,none⟩=_:=c14
 go_region_held3 (fun w'=>w'.cell? ⟨bc,0,none⟩=some (U κ ca)∧w'.cell? ⟨bx,14,none⟩=some (U κ (X.imm:Int))) (first | with_reducible exact ⟨c1,c14⟩ | with_reducible exact ⟨e1,e14⟩ | with_reducible exact ⟨d1,d2⟩ | with_reducible exact ⟨cd (yj _ _ _ _ _ _ _ _ _ _) d1 n1,cd (yj _ _ _ _ _ _ _ _ _ _) d2 n2⟩) (first
  | (go_at_call 119;refine(mo _ _ _ _ _ HJ.out.drew.x).mono ?_;rintro e v ⟨rfl,fv⟩;have d1:=cd fv (show v0.drew.cell? _=_ from c1) (fun h=>h);have d2:=cd fv (show v0.drew.cell? _=_ from c14) (fun h=>h);replace r1:=r1.drew.keep fv (fun h=>h);obtain ⟨z0,z1,z2,z3,z4,z5,z6,z7⟩:=jb r1;obtain ⟨y0,y1,y2,y3,y4,y5,y6,y7⟩:=jd r1;replace f1:=f1.drew.trans fv;replace HJ:Hid (Jb v B nf bx M X):=HJ.out.drew.keep0 fv;clear fv))
 all_goals go_wp2_with fail
 all_goals refine bodyPost_ret (gl rfl rfl (dz r1 _ _ _ _ _ _ _ _) rfl) rfl ?_
 all_goals exact je (ro f1) HJ.out (by omega) L.out ⟨ca,X.imm,X.pc,f0⟩ _ _ _ _ _ _ _ _ rfl
def rcM (M:Mc) (nf:Nat) (vm sd fi se ad want ix:Int):Mc:=
 { M with T:=l8 M.bs nf M.T vm sd fi se (ad / 64) want ix,fo:=M.fo+lj (idx M.T vm sd (ad / 64) 8),mi:=M.mi+li (idx M.T vm sd (ad / 64) 8) }
def rcF (M:Mc) (nf:Nat) (vm sd fi se ad want:Int):Ft:=
 if (go M.bs nf M.T vm sd fi se (ad / 64) want).k≠0 then go M.bs nf M.T vm sd fi se (ad / 64) want
 else if (nf:Int)≤j7 M.bs nf M.T vm sd fi se (ad / 64) want then ⟨3,0,0,false,0⟩ else f0
def rcP (M:Mc) (nf:Nat) (vm sd fi se ad want:Int):Int:=
 if (rcF M nf vm sd fi se ad want).k≠0 then 0 else j7 M.bs nf M.T vm sd fi se (ad / 64) want*64+ad%64
structure Mc.few (M:Mc) (n:Nat):Prop where
 fo:0≤M.fo
 mi:0≤M.mi
 sum:M.fo+M.mi≤n
 good:kh M.T
 uniq:vl M.T
theorem good_reach {T:Nat→Ln} (h:kh T) (bs:List UInt8) (nf:Nat) (vm sd first second page want ix:Int):kh (l8 bs nf T vm sd first second page want ix):=by
 unfold l8
 repeat' split
 ·exact h
 ·exact good_fill h _ _
 ·exact h
theorem uniq_reach {T:Nat→Ln} (h:vl T) (bs:List UInt8) (nf:Nat) (vm sd first second page want ix:Int):vl (l8 bs nf T vm sd first second page want ix):=by
 unfold l8
 repeat' split
 ·exact h
 ·exact uniq_fill h _ _
 ·exact h
theorem p6 {M:Mc} {n:Nat} (h:M.few n) (nf:Nat) (vm sd fi se ad want ix:Int):(rcM M nf vm sd fi se ad want ix).few (n+1):=by
 have b:=more_bounds (idx M.T vm sd (ad / 64) 8)
 have h1:=h.fo
 have h2:=h.mi
 have h3:=h.sum
 exact ⟨by show 0≤_+_;omega,by show 0≤_+_;omega,by show(_+_)+(_+_)≤_;omega,good_reach h.good _ _ _ _ _ _ _ _ _,uniq_reach h.uniq _ _ _ _ _ _ _ _ _⟩
theorem ew_fr (bs:List UInt8) (t page lvl:Int):0≤df (ew bs t page lvl)∧df (ew bs t page lvl)≤1023:=by
 unfold ew
 have:=half_lt bs t.toNat (np page lvl).toNat
 exact df_range (by omega) (by omega)
theorem single_fr (bs:List UInt8) (nf:Nat) (root page:Int):0≤(cv bs nf root page).fr∧(cv bs nf root page).fr≤1023:=by
 unfold cv rv
 repeat' split
 ·exact ⟨by decide,by decide⟩
 ·exact ⟨Int.le_refl 0,by show(0:Int)≤1023;omega⟩
 ·exact ⟨Int.le_refl 0,by show(0:Int)≤1023;omega⟩
 ·exact ew_fr _ _ _ _
theorem vj (bs:List UInt8) (nf:Nat) (root page want:Int):0≤(ce bs nf root page want).fr∧(ce bs nf root page want).fr≤1023:=by
 unfold ce rv
 repeat' split
 ·exact single_fr _ _ _ _
 ·exact ⟨Int.le_refl 0,by show(0:Int)≤1023;omega⟩
 ·exact single_fr _ _ _ _
theorem guest_fr (bs:List UInt8) (nf:Nat) (second table page lvl:Int):0≤(ci bs nf second table page lvl).fr∧(ci bs nf second table page lvl).fr≤1023:=by
 unfold ci rv
 repeat' split
 ·unfold rj
  split
  ·exact ⟨Int.le_refl 0,by show(0:Int)≤1023;omega⟩
  ·exact vj _ _ _ _ _
 ·exact ⟨Int.le_refl 0,by show(0:Int)≤1023;omega⟩
 ·exact ew_fr _ _ _ _
theorem nested_fr (bs:List UInt8) (nf:Nat) (first second page want:Int):0≤(cg bs nf first second page want).fr∧(cg bs nf first second page want).fr≤1023:=by
 unfold cg
 repeat' split
 ·unfold rv;exact ⟨Int.le_refl 0,by show(0:Int)≤1023;omega⟩
 ·exact vj _ _ _ _ _
 ·exact guest_fr _ _ _ _ _ _
 ·exact guest_fr _ _ _ _ _ _
 ·unfold rv;exact ⟨Int.le_refl 0,by show(0:Int)≤1023;omega⟩
 ·exact vj _ _ _ _ _
theorem line_f {l:Ln} (h:l=zl∨jz l=true):0≤l.f∧l.f≤1023:=by
 rcases h with rfl | h
 ·exact ⟨by decide,by decide⟩
 ·unfold jz at h
  simp only[Bool.and_eq_true,inB,decide_eq_true_eq] at h
  omega
theorem p4 {T:Nat→Ln} (h:kh T) (bs:List UInt8) (nf:Nat) (vm sd first second page want:Int):0≤j7 bs nf T vm sd first second page want∧j7 bs nf T vm sd first second page want≤1023:=by
 unfold j7
 split
 ·unfold ansF
  rcases xy T vm sd page 8 with ⟨h1,_⟩ | ⟨k,hk,he,_⟩
  ·rw[h1];exact ⟨Int.le_refl 0,show(0:Int)≤1023 by omega⟩
  ·rw[he,show decide ((k:Int)<0)=false from decide_eq_false (by omega)]
   exact line_f (h _ (by rw[Int.toNat_natCast];exact hk))
 ·exact nested_fr _ _ _ _ _ _
theorem Jb.buf {w w':World} {B:Bm} {nf bx:Nat} {M:Mc} {X:Wk} (h:Jb w B nf bx M X) (f:Fr (at' B.bt) w w') {T:Nat→Ln} {fo mi:Int} (ht:jj w' B.bt T fo mi):Jb w' B nf bx { M with T:=T,fo:=fo,mi:=mi } X:=
 {m:=⟨h.m.ram.keep f h.m.d1 h.m.d2,ht,h.m.vg.keep f (fun b hb k hk e=>h.m.e3 (by have e':k=B.bt:=e;rw[←e'];simp only[Bm.g,hb];exact hk)),h.m.d1,h.m.d2,h.m.d3,h.m.e1,h.m.e2,h.m.e3⟩
  x:=h.x.keep f h.f3,p:=h.p,t:=h.t,v:=h.v,f1:=h.f1,f2:=h.f2,f3:=h.f3,f4:=h.f4,ok:=h.ok,a:=h.a,b:=h.b,c:=h.c,i:=h.i,wd:=h.wd,pc:=h.pc }
theorem fr_t {w w':World} {B:Bm} {bx:Nat} (f:Fr (at' B.bt) w w'):Fr (B.x bx) w w':=f.mono (fun _ _ h=>Or.inl (Or.inr (Or.inl h)))
theorem ln {w:World} {B:Bm} {bx:Nat} {X:Wk} (h:IsW w bx X) (hp:X.p=B.p) (ht:X.t=B.bt):w.cell? ⟨bx,0,none⟩=some (π (some ⟨B.p,0,none⟩))∧w.cell? ⟨bx,1,none⟩=some (π (some ⟨B.bt,0,none⟩))∧w.cell? ⟨bx,3,none⟩=some (U κ X.vm)∧w.cell? ⟨bx,4,none⟩=some (U κ X.sd)∧w.cell? ⟨bx,5,none⟩=some (U κ X.fi)∧w.cell? ⟨bx,6,none⟩=some (U κ X.se)∧w.cell? ⟨bx,7,none⟩=some (U κ X.ix):=
 ⟨hp ▸ h.k0,ht ▸ h.k1,h.k3,h.k4,h.k5,h.k6,h.k7⟩
def Rch' (w:World) (B:Bm) (nf bx:Nat) (M:Mc) (X:Wk) (p:Int) (f:Ft) (e:Ending) (w':World):Prop:=e=ρ (τ #[U κ p,.agg #[U κ f.k,U κ f.s,U κ f.l,β f.wk,U κ f.p]])∧Fr (B.x bx) w w'∧Jb w' B nf bx M X
theorem wreach_any (w:World) (B:Bm) (nf bx:Nat) (M:Mc) (X:Wk) (ad want:Int) (h:Jb w B nf bx M X) {n:Nat} (hm:M.few n) (hn:n<999990) (ha:0≤ad∧ad≤65535) :
  Calls pQ 105 #[π (some ⟨bx,0,none⟩),U κ ad,U κ want] w (Rch' w B nf bx (rcM M nf X.vm X.sd X.fi X.se ad want X.ix) X (rcP M nf X.vm X.sd X.fi X.se ad want) (rcF M nf X.vm X.sd X.fi X.se ad want)):=by
 have hR:∀ w1,Jb w1 B nf bx M X→Calls pQ 136 #[π (some ⟨B.p,0,none⟩),π (some ⟨B.bt,0,none⟩),.agg #[U κ X.vm,U κ X.sd,U κ X.fi,U κ X.se],U κ (ad / 64),U κ want,U κ X.ix] w1 fun e w'=>e=ρ (τ #[U κ (j7 M.bs nf M.T X.vm X.sd X.fi X.se (ad / 64) want),.agg #[U κ (go M.bs nf M.T X.vm X.sd X.fi X.se (ad / 64) want).k,U κ (go M.bs nf M.T X.vm X.sd X.fi X.se (ad / 64) want).s,U κ (go M.bs nf M.T X.vm X.sd X.fi X.se (ad / 64) want).l,β (go M.bs nf M.T X.vm X.sd X.fi X.se (ad / 64) want).wk,U κ (go M.bs nf M.T X.vm X.sd X.fi X.se (ad / 64) want).p]])∧Fr (B.x bx) w1 w'∧Jb w' B nf bx (rcM M nf X.vm X.sd X.fi X.se ad want X.ix) X:=fun w1 h1 =>
  (reach_any w1 B.p B.bf nf M.bs B.bt M.T M.fo M.mi X.vm X.sd X.fi X.se (ad / 64) want X.ix h1.m.ram h1.m.tlb ⟨hm.fo,by have:=hm.sum;have:=hm.mi;omega⟩ ⟨hm.mi,by have:=hm.sum;have:=hm.fo;omega⟩ h1.m.d1 h1.m.d2).mono fun e w' ⟨he,f,ht⟩=>⟨he,fr_t f,h1.buf f ht⟩
 have L:Hid (∀ k,B.y bx k→k<w.heap.size):=h.lty
 have HF:=fun w1 (h1:Jb w1 B nf bx (rcM M nf X.vm X.sd X.fi X.se ad want X.ix) X)=>jg w1 B.p B.bf nf M.bs h1.m.ram
 have Hrc:Hid (rcF M nf X.vm X.sd X.fi X.se ad want=(if (go M.bs nf M.T X.vm X.sd X.fi X.se (ad / 64) want).k≠0 then go M.bs nf M.T X.vm X.sd X.fi X.se (ad / 64) want else if (nf:Int)≤j7 M.bs nf M.T X.vm X.sd X.fi X.se (ad / 64) want then ⟨3,0,0,false,0⟩ else f0)∧rcP M nf X.vm X.sd X.fi X.se ad want=if (rcF M nf X.vm X.sd X.fi X.se ad want).k≠0 then 0 else j7 M.bs nf M.T X.vm X.sd X.fi X.se (ad / 64) want*64+ad%64):=⟨rfl,rfl⟩
 have hnf:nf≤1024:=h.m.ram.most
 have hq:=p4 hm.good M.bs nf X.vm X.sd X.fi X.se (ad / 64) want
 obtain ⟨M',hM'⟩:∃ M',rcM M nf X.vm X.sd X.fi X.se ad want X.ix=M':=⟨_,rfl⟩
 obtain ⟨F,hF⟩:∃ F,go M.bs nf M.T X.vm X.sd X.fi X.se (ad / 64) want=F:=⟨_,rfl⟩
 obtain ⟨Q,hQ⟩:∃ Q,j7 M.bs nf M.T X.vm X.sd X.fi X.se (ad / 64) want=Q:=⟨_,rfl⟩
 obtain ⟨F',hF'⟩:∃ F',rcF M nf X.vm X.sd X.fi X.se ad want=F':=⟨_,rfl⟩
 obtain ⟨P',hP'⟩:∃ P',rcP M nf X.vm X.sd X.fi X.se ad want=P':=⟨_,rfl⟩
 rw[hF,hQ,hF',hP'] at Hrc
 rw[hM',hF',hP']
 rw[hM',hF,hQ] at hR
 rw[hQ] at hq
 rw[hM'] at HF
 clear hM' hF hQ hF' hP' hm
 have q1:ad.tdiv 64=ad / 64:=Int.tdiv_eq_ediv_of_nonneg ha.1
 have q2:IntKind.i64.wrap (ad / 64)=ad / 64:=by rw[IntKind.wrap_i64];omega
 have f1:=(Fr.refl bg w).alloc (ω #[U κ 0,U κ 0,U κ 0,β false,U κ 0] 50)
 have h1:=h.alloc (ω #[U κ 0,U κ 0,U κ 0,β false,U κ 0] 50)
 have r1:=ba w #[U κ 0,U κ 0,U κ 0,β false,U κ 0] 50
 go_enter Tryz.func105,Tryz.ntmps105
 go_wp2_with fail
 clear h
 obtain ⟨v0,hv0⟩:∃ v0,v0=w.alloc (ω #[U κ 0,U κ 0,U κ 0,β false,U κ 0] 50):=⟨_,rfl⟩
 have hs0:Hid (v0.heap.size=w.heap.size+1):=by show v0.heap.size=_;rw[hv0];simp
 rw[←hv0] at f1 h1 r1 ⊢
 clear hv0
 have HJ:Hid (Jb v0 B nf bx M X):=h1
 have hp:=h1.p
 have ht:=h1.t
 have nb:¬ at' v0.heap.size bx:=fun e=>by have e':bx=v0.heap.size:=e;have:=h1.x.lt;omega
 have nr:¬ B.x bx w.heap.size:=fun e=>absurd (L.out _ (Or.inl e)) (by omega)
 have n9:¬ B.x bx v0.heap.size:=fun e=>absurd (L.out _ (Or.inl e)) (by have:=hs0.out;omega)
 obtain ⟨c0,c1,c3,c4,c5,c6,c7⟩:=ln h1.x hp ht
 have HD:=h1.drew.x
 have HE:∀ o,IsW (v0.alloc o).drew bx X:=fun o=>(h1.alloc o).drew.x
 clear h1
 go_cut [8,9] from 10 to 34 (fun s g wx=>∃ gb,s=U κ Q∧g=π (some ⟨gb,0,none⟩)∧Row wx gb #[U κ F.k,U κ F.s,U κ F.l,β F.wk,U κ F.p] 50∧Row wx w.heap.size #[U κ 0,U κ 0,U κ 0,β false,U κ 0] 50∧Hid (w.heap.size<gb)∧Fr (B.x bx) w wx∧Hid (Jb wx B nf bx M' X))
 case first =>
  go_region_held3 (fun w'=>w'.cell? ⟨bx,0,none⟩=some (π (some ⟨B.p,0,none⟩))∧w'.cell? ⟨bx,1,none⟩=some (π (some ⟨B.bt,0,none⟩))∧w'.cell? ⟨bx,3,none⟩=some (U κ X.vm)∧w'.cell? ⟨bx,4,none⟩=some (U κ X.sd)∧w'.cell? ⟨bx,5,none⟩=some (U κ X.fi)∧w'.cell? ⟨bx,6,none⟩=some (U κ X.se)∧w'.cell? ⟨bx,7,none⟩=some (U κ X.ix)) (first | with_reducible exact ⟨c0,c1,c3,c4,c5,c6,c7⟩ | with_reducible exact ln HD hp ht | with_reducible exact ln (HD.alloc _) hp ht | with_reducible exact ln (HE _) hp ht | with_reducible exact ln hv.x hp ht | with_reducible exact ln (hv.x.alloc _) hp ht | with_reducible exact ln (hv.x.keep (jx _ _ _ _ _ _ _) nb) hp ht | with_reducible exact ln ((hv.x.alloc _).keep (jx _ _ _ _ _ _ _) nv) hp ht) (first
   | (go_at_call 136;refine(hR _ (by first | exact HJ.out.drew | exact HJ.out.drew.alloc _ | exact(HJ.out.alloc _).drew)).mono ?_;rintro e v ⟨rfl,fv,hv⟩;have nv:¬ at' v.heap.size bx:=vn hv.x.lt;have hf0:Fr (B.x bx) v0 v:=(by first | exact ks fv | exact rs_alloc fv);have hr1:Row v w.heap.size #[U κ 0,U κ 0,U κ 0,β false,U κ 0] 50:=(by first | exact r1.drew.keep fv nr | exact(r1.drew.alloc _).keep fv nr);try (have hr9:Row v v0.heap.size #[U κ 0,U κ 0,U κ 0,β false,U κ 0] 50:=(ba v0.drew #[U κ 0,U κ 0,U κ 0,β false,U κ 0] 50).keep fv n9;obtain ⟨y0,y1,y2,y3,y4⟩:=bl hr9;obtain ⟨z0,z1,z2,z3,z4⟩:=bz hr9);have q9:=ba v #[U κ 0,U κ 0,U κ 0,β false,U κ 0] 50;obtain ⟨yy0,yy1,yy2,yy3,yy4⟩:=bl q9;obtain ⟨zz0,zz1,zz2,zz3,zz4⟩:=bz q9))
  all_goals go_wp2_with fail
  all_goals go_meet
  ·exact ⟨v.heap.size,rfl,rfl,ba _ _ _,hr1.alloc _,(show w.heap.size<v.heap.size by have:=hf0.size;have:=hs0.out;omega),((ro f1).trans hf0).alloc _,hv.alloc _⟩
  all_goals exact ⟨v0.heap.size,rfl,rfl,row_set5' hr9 _ _ _ _ _,hr1.keep (jx _ _ _ _ _ _ _) (vn (by have:=hs0.out;omega)),(show w.heap.size<v0.heap.size by have:=hs0.out;omega),((ro f1).trans hf0).newerS (jx _ _ _ _ _ _ _) (by have:=hs0.out;omega),hv.past (jx _ _ _ _ _ _ _) (fun k hk=>by have:=L.out k hk;have:=hs0.out;omega)⟩
 case rest =>
  obtain ⟨gb,rfl,rfl,R9,R7,Hgb,fc,HJc⟩:=hcut
  clear r1 f1 HD HE c0 c1 c3 c4 c5 c6 c7 hR HJ hs0 nb n9
  have HY:Hid (∀ k,B.y bx k→k≠w.heap.size):=fun k hk=>by have:=L.out k hk;omega
  by_cases hk:F.k=0
  ·have t1:(F.k != 0)=false:=by simp[hk]
   obtain ⟨y0,y1,y2,y3,y4⟩:=bl R9
   have c0:wc.cell? ⟨bx,0,none⟩=some (π (some ⟨B.p,0,none⟩)):=(ln HJc.out.x hp ht).1
   go_wp2_with fail
   refine(HF _ HJc.out).mono ?_
   rintro e v ⟨rfl,rfl⟩
   clear y0 y1 y2 y3 y4 c0 R9 HF
   obtain ⟨x0,x1,x2,x3,x4⟩:=bl R7
   obtain ⟨z0,z1,z2,z3,z4⟩:=bz R7
   by_cases hn:(nf:Int)≤Q
   ·have t2:decide ((nf:Int)≤Q)=true:=decide_eq_true hn
    obtain ⟨e1,e2⟩:=Hrc.out
    rw[if_neg (by simp[hk]),if_pos hn] at e1
    subst e1
    rw[if_pos (by decide)] at e2
    subst e2
    go_wp2_with fail
    refine bodyPost_ret (jt rfl rfl (R7.put5 _ _ _ _ _) rfl) rfl ?_
    exact ⟨rfl,fc.newerS (jx _ _ _ _ _ _ _) (Nat.le_refl _),HJc.out.past (jx _ _ _ _ _ _ _) HY.out⟩
   ·have t2:decide ((nf:Int)≤Q)=false:=decide_eq_false hn
    have w1:IntKind.i64.wrap (Q*64)=Q*64:=by rw[IntKind.wrap_i64];omega
    have w2:ad.tmod 64=ad%64:=Int.tmod_eq_emod_of_nonneg ha.1
    have w3:IntKind.i64.wrap (Q*64+ad%64)=Q*64+ad%64:=by rw[IntKind.wrap_i64];omega
    obtain ⟨e1,e2⟩:=Hrc.out
    rw[if_neg (by simp[hk]),if_neg hn] at e1
    subst e1
    rw[if_neg (by decide)] at e2
    go_wp2_with fail
    refine bodyPost_ret (jt rfl rfl (R7.put5 _ _ _ _ _) rfl) rfl ?_
    exact ⟨by rw[e2];rfl,fc.newerS (jx _ _ _ _ _ _ _) (Nat.le_refl _),HJc.out.past (jx _ _ _ _ _ _ _) HY.out⟩
  ·have t1:(F.k != 0)=true:=by simp[hk]
   obtain ⟨e1,e2⟩:=Hrc.out
   rw[if_pos hk] at e1
   subst e1
   rw[if_pos hk] at e2
   subst e2
   obtain ⟨y0,y1,y2,y3,y4⟩:=bl R9
   obtain ⟨x0,x1,x2,x3,x4⟩:=bl R7
   obtain ⟨z0,z1,z2,z3,z4⟩:=bz R7
   go_wp2_with fail
   go_region
   go_wp2_with fail
   refine bodyPost_ret (jt rfl rfl (R7.put5 _ _ _ _ _).drew rfl) rfl ?_
   exact ⟨rfl,(fc.newerS (jx _ _ _ _ _ _ _) (Nat.le_refl _)).drew,(HJc.out.past (jx _ _ _ _ _ _ _) HY.out).drew⟩
theorem xv {w:World} {g:Nat} {cs:Array Value} (h:Row w g cs 52) (hs:cs.size=8):(loadVar 52 ⟨g,0,none⟩).run pQ w=.ok (.agg cs) w:=by
 have h':=run_loadVar_mid (P:=pQ) w g 0 52 cs.toList _ (fun j v hv=>by rw[Nat.zero_add,h.cell];simpa using hv) Tryz.underlying52 rfl (by rw[Array.length_toList,hs];exact bn)
 simpa using h'
theorem ret_it {fn:Func} {t p:Tmp} {tmps:Array Value} {g:Nat} {cs:Array Value} {w:World} (h:fn.results=#[.tmp t,.cell p 52]) (hp:tmps.getD p undef=π (some ⟨g,0,none⟩)) (hr:Row w g cs 52) (hs:cs.size=8) :
  (results fn tmps).run pQ w=.ok (τ #[tmps.getD t undef,.agg cs]) w:=by
 have hl:=xv hr hs
 have hp':tmps[p]?.getD undef=π (some ⟨g,0,none⟩):=by simpa using hp
 simp only[results,h]
 simp[Result.andThen,hp',asAddr,hl]
def Wk.ad (X:Wk):Int:=(((X.z.r X.b+X.imm)%65536:Nat):Int)
theorem Wk.ad_range (X:Wk):0≤X.ad∧X.ad≤65535:=by unfold Wk.ad;omega
def Dat (w:World) (B:Bm) (nf bx:Nat) (M:Mc) (X:Wk) (p:Int) (t:Tr) (e:Ending) (w':World):Prop:=e=ρ (τ #[U κ p,.agg (trL t)])∧Fr (B.x bx) w w'∧Jb w' B nf bx M X
theorem dat_end {w w1 w2:World} {B:Bm} {nf bx:Nat} {M:Mc} {X:Wk} {g:Nat} (f:Fr (B.x bx) w w1) (h:Jb w1 B nf bx M X) (hg:w.heap.size≤g) (hB:∀ k,B.y bx k→k<w.heap.size) (q:Fr (at' g) w1 w2) (p:Int) (t:Tr) (cs:Array Value) (ht:cs=trL t):Dat w B nf bx M X p t (ρ (τ #[U κ p,.agg cs])) w2:=
 ⟨by rw[ht],f.newerS q hg,h.past q (fun k hk=>by have:=hB k hk;omega)⟩
theorem data_any (w:World) (B:Bm) (nf bx:Nat) (M:Mc) (X:Wk) (size want cause:Int) (h:Jb w B nf bx M X) {n:Nat} (hm:M.few n) (hn:n<999990) (hsz:size=1∨size=4) :
  Calls pQ 114 #[π (some ⟨bx,0,none⟩),U κ size,U κ want,U κ cause] w (Dat w B nf bx
   (if X.ad%size≠0 then M else rcM M nf X.vm X.sd X.fi X.se X.ad want X.ix) X
   (if X.ad%size≠0 then 0 else rcP M nf X.vm X.sd X.fi X.se X.ad want)
   (if X.ad%size≠0 then ⟨4,0,X.ad,f0⟩ else if (rcF M nf X.vm X.sd X.fi X.se X.ad want).k≠0 then ⟨cause,0,X.ad,rcF M nf X.vm X.sd X.fi X.se X.ad want⟩ else t0)):=by
 have had:=X.ad_range
 have hR:=fun w1 (h1:Jb w1 B nf bx M X)=>wreach_any w1 B nf bx M X X.ad want h1 hm hn had
 have hr:=h.ok.r X.b
 have hi:=h.i
 have e1:=m5 X.imm (by omega)
 have e2:IntKind.u32.wrap ((X.z.r X.b:Int)+(X.imm:Int))=(((X.z.r X.b+X.imm)%4294967296:Nat):Int):=by rw[IntKind.wrap_u32];omega
 obtain ⟨s,hs⟩:∃ s:Nat,(X.z.r X.b+X.imm)%4294967296=s:=⟨_,rfl⟩
 have e3:IntKind.i64.wrap (s:Int)=(s:Int):=by rw[IntKind.wrap_i64];omega
 have e4:bits .and .i64 (s:Int) 65535=X.ad:=by rw[and16];unfold Wk.ad;omega
 have e5:X.ad.tmod size=X.ad%size:=Int.tmod_eq_emod_of_nonneg had.1
 have e6:(size == 0)=false:=by rcases hsz with rfl | rfl <;> rfl
 rw[hs] at e2
 have e7:((X.z.r X.b:Int)+(X.imm:Int))%4294967296=(s:Int):=by omega
 have f1:=(Fr.refl bg w).alloc (ω (trL t0) 52)
 have h1:=h.alloc (ω (trL t0) 52)
 have r1:=ba w (trL t0) 52
 have L:Hid (∀ k,B.y bx k→k<w.heap.size):=h.lty
 clear hs hr h hi
 obtain ⟨ad,hd⟩:∃ ad,X.ad=ad:=⟨_,rfl⟩
 rw[hd] at had e4 e5 hR ⊢
 clear hd
 obtain ⟨M2,hM2⟩:∃ M2,M2=(if ad%size≠0 then M else rcM M nf X.vm X.sd X.fi X.se ad want X.ix):=⟨_,rfl⟩
 obtain ⟨P2,hP2⟩:∃ P2,P2=(if ad%size≠0 then 0 else rcP M nf X.vm X.sd X.fi X.se ad want):=⟨_,rfl⟩
 obtain ⟨T2,hT2⟩:∃ T2,T2=(if ad%size≠0 then(⟨4,0,ad,f0⟩:Tr) else if (rcF M nf X.vm X.sd X.fi X.se ad want).k≠0 then ⟨cause,0,ad,rcF M nf X.vm X.sd X.fi X.se ad want⟩ else t0):=⟨_,rfl⟩
 rw[←hM2,←hP2,←hT2]
 have HM2:Hid (M2=(if ad%size≠0 then M else rcM M nf X.vm X.sd X.fi X.se ad want X.ix)):=hM2
 have HP2:Hid (P2=(if ad%size≠0 then 0 else rcP M nf X.vm X.sd X.fi X.se ad want)):=hP2
 have HT2:Hid (T2=(if ad%size≠0 then(⟨4,0,ad,f0⟩:Tr) else if (rcF M nf X.vm X.sd X.fi X.se ad want).k≠0 then ⟨cause,0,ad,rcF M nf X.vm X.sd X.fi X.se ad want⟩ else t0)):=hT2
 clear hM2 hP2 hT2
 obtain ⟨M',hM'⟩:∃ M',rcM M nf X.vm X.sd X.fi X.se ad want X.ix=M':=⟨_,rfl⟩
 obtain ⟨F',hF'⟩:∃ F',rcF M nf X.vm X.sd X.fi X.se ad want=F':=⟨_,rfl⟩
 obtain ⟨P',hP'⟩:∃ P',rcP M nf X.vm X.sd X.fi X.se ad want=P':=⟨_,rfl⟩
 have HP0:Hid ((rcF M nf X.vm X.sd X.fi X.se ad want).k≠0→rcP M nf X.vm X.sd X.fi X.se ad want=0):=fun h=>by unfold rcP;rw[if_pos h]
 rw[hF',hP'] at HP0
 rw[hM'] at HM2 hR
 rw[hF'] at HT2 hR
 rw[hP'] at HP2 hR
 clear hM' hF' hP' hm
 unfold trL t0 f0 at f1 h1 r1
 obtain ⟨v0,hv0⟩:∃ v0,v0=w.alloc (ω #[U κ 0,U κ 0,U κ 0,U κ 0,U κ 0,U κ 0,β false,U κ 0] 52):=⟨_,rfl⟩
 go_enter Tryz.func114,Tryz.ntmps114
 go_wp2_with fail
 rw[←hv0] at f1 h1 r1 ⊢
 clear hv0
 have hB:=fun n=>b_any (v0.drewN n) bx X (h1.x.drewN n) h1.b
 have c14:=h1.x.k14
 go_quiet ((go_at_call 112;refine Calls.quiet_of (hB _)))
 have f2:=f1.trans (bo v0 nq)
 replace h1:=h1.keep0 (bo v0 nq)
 replace r1:=r1.keep (bo v0 nq) (fun h=>h)
 obtain ⟨v1,hv1⟩:∃ v1,v1=v0.drewN nq:=⟨_,rfl⟩
 rw[←hv1] at f2 h1 r1 ⊢
 clear hv1 hB c14 f1
 by_cases hz:ad%size=0
 ·have t1:(ad%size != 0)=false:=by simp[hz]
  have g1:=HM2.out
  have g2:=HP2.out
  have g3:=HT2.out
  rw[if_neg (by simp[hz])] at g1 g2 g3
  subst g1 g2
  have HT3:Hid (T2=if F'.k≠0 then(⟨cause,0,ad,F'⟩:Tr) else t0):=g3
  clear HM2 HP2 HT2 hz g3
  go_wp2_with fail
  refine(hR _ h1).mono ?_
  rintro e v2 ⟨rfl,f3,h3⟩
  clear h1 hR
  replace r1:=r1.keep f3 (fun e=>absurd (L.out _ (Or.inl e)) (by omega))
  have f4:=(ro (B:=B) (bx:=bx) f2).trans f3
  clear f3 f2
  have HJ:Hid (Jb (v2.alloc (ω #[U κ F'.k,U κ F'.s,U κ F'.l,β F'.wk,U κ F'.p] 50)) B nf bx M2 X):=h3.alloc _
  have r9:=ba v2 #[U κ F'.k,U κ F'.s,U κ F'.l,β F'.wk,U κ F'.p] 50
  replace r1:=r1.alloc (ω #[U κ F'.k,U κ F'.s,U κ F'.l,β F'.wk,U κ F'.p] 50)
  replace f4:=f4.alloc (ω #[U κ F'.k,U κ F'.s,U κ F'.l,β F'.wk,U κ F'.p] 50)
  clear h3
  go_upto_region 5 with fail
  obtain ⟨v3,hv3⟩:∃ v3,v3=v2.alloc (ω #[U κ F'.k,U κ F'.s,U κ F'.l,β F'.wk,U κ F'.p] 50):=⟨_,rfl⟩
  rw[←hv3] at HJ r9 r1 f4 ⊢
  clear hv3
  obtain ⟨y0,y1,y2,y3,y4⟩:=bl r9
  obtain ⟨x0,x1,x2,x3,x4,x5,x6,x7⟩:=jd r1
  obtain ⟨z0,z1,z2,z3,z4,z5,z6,z7⟩:=jb r1
  by_cases hk:F'.k=0
  ·have t2:(F'.k != 0)=false:=by simp[hk]
   have g3:=HT3.out
   rw[if_neg (by simp[hk])] at g3
   subst g3
   go_wp2_with fail
   refine bodyPost_ret (ret_it rfl rfl (dz r1 _ _ _ _ _ _ _ _) rfl) rfl ?_
   exact dat_end f4 HJ.out (Nat.le_refl _) L.out (yj _ _ _ _ _ _ _ _ _ _) _ t0 _ rfl
  ·have t2:(F'.k != 0)=true:=by simp[hk]
   have g3:=HT3.out
   rw[if_pos hk] at g3
   subst g3
   have g0:=HP0.out hk
   subst g0
   go_wp2_with fail
   go_region
   all_goals go_wp2_with fail
   all_goals refine bodyPost_ret (ret_it rfl rfl (dz r1 _ _ _ _ _ _ _ _).drew rfl) rfl ?_
   all_goals exact dat_end f4 HJ.out (Nat.le_refl _) L.out (yj _ _ _ _ _ _ _ _ _ _).drew _ ⟨cause,0,ad,F'⟩ _ rfl
 ·have t1:(ad%size != 0)=true:=by simp[hz]
  have g1:=HM2.out
  have g2:=HP2.out
  have g3:=HT2.out
  rw[if_pos hz] at g1 g2 g3
  subst g1 g2 g3
  clear HM2 HP2 HT2 hz hR
  have HJ:Hid (Jb v1 B nf bx M2 X):=h1
  clear h1
  obtain ⟨x0,x1,x2,x3,x4,x5,x6,x7⟩:=jd r1
  obtain ⟨z0,z1,z2,z3,z4,z5,z6,z7⟩:=jb r1
  go_wp2_with fail
  refine bodyPost_ret (ret_it rfl rfl (dz r1 _ _ _ _ _ _ _ _) rfl) rfl ?_
  exact dat_end (ro f2) HJ.out (Nat.le_refl _) L.out (yj _ _ _ _ _ _ _ _ _ _) _ ⟨4,0,ad,f0⟩ _ rfl
def dM (M:Mc) (nf:Nat) (X:Wk) (size want:Int):Mc:=if X.ad%size≠0 then M else rcM M nf X.vm X.sd X.fi X.se X.ad want X.ix
def dP (M:Mc) (nf:Nat) (X:Wk) (size want:Int):Int:=if X.ad%size≠0 then 0 else rcP M nf X.vm X.sd X.fi X.se X.ad want
def dT (M:Mc) (nf:Nat) (X:Wk) (size want cause:Int):Tr:=if X.ad%size≠0 then ⟨4,0,X.ad,f0⟩ else if (rcF M nf X.vm X.sd X.fi X.se X.ad want).k≠0 then ⟨cause,0,X.ad,rcF M nf X.vm X.sd X.fi X.se X.ad want⟩ else t0
theorem dT_zero {M:Mc} {nf:Nat} {X:Wk} {size want cause:Int} (hc:cause≠0) (h:(dT M nf X size want cause).ca=0):dT M nf X size want cause=t0:=by
 unfold dT at h ⊢
 split at h
 ·exact absurd h (show ¬ ((4:Int)=0) by decide)
 ·rw[if_neg (by assumption)]
  split at h
  ·exact absurd h hc
  ·rw[if_neg (by assumption)]
theorem dM_bs (M:Mc) (nf:Nat) (X:Wk) (size want:Int):(dM M nf X size want).bs=M.bs:=by unfold dM rcM;split <;> rfl
theorem few_d {M:Mc} {n:Nat} (h:M.few n) (nf:Nat) (X:Wk) (size want:Int):(dM M nf X size want).few (n+1):=by
 unfold dM
 split
 ·exact ⟨h.fo,h.mi,by have:=h.sum;omega,h.good,h.uniq⟩
 ·exact p6 h _ _ _ _ _ _ _ _
theorem rcP_range {M:Mc} {n:Nat} (h:M.few n) (nf:Nat) (vm sd fi se ad want:Int):0≤rcP M nf vm sd fi se ad want∧rcP M nf vm sd fi se ad want≤65535:=by
 unfold rcP
 have:=p4 h.good M.bs nf vm sd fi se (ad / 64) want
 split <;> omega
theorem dP_range {M:Mc} {n:Nat} (h:M.few n) (nf:Nat) (X:Wk) (size want:Int):0≤dP M nf X size want∧dP M nf X size want≤65535:=by
 unfold dP
 split
 ·omega
 ·exact rcP_range h _ _ _ _ _ _ _
theorem lu (bs:List UInt8) (addr size:Int) (nf:Nat) (hs:size≤4):0≤j5 bs addr size nf∧j5 bs addr size nf<4294967296:=by
 unfold j5
 split
 ·have h1:=numOf_lt ((bs.drop addr.toNat).take size.toNat)
  have h2:((bs.drop addr.toNat).take size.toNat).length≤4:=by rw[List.length_take];omega
  have h3:256 ^ ((bs.drop addr.toNat).take size.toNat).length≤256 ^ 4:=Nat.pow_le_pow_right (by decide) h2
  have h4:(256:Nat) ^ 4=4294967296:=by decide
  omega
 ·omega
def ldX (M:Mc) (nf:Nat) (X:Wk) (size:Int):Wk:=if (dT M nf X size 1 2).ca≠0 then X else { X with z:=X.z.setR X.a (j5 M.bs (dP M nf X size 1) size nf).toNat }
def stM (M:Mc) (nf:Nat) (X:Wk) (size:Int):Mc:=if (dT M nf X size 2 3).ca≠0 then dM M nf X size 2 else { dM M nf X size 2 with bs:=kj M.bs (dP M nf X size 2) size nf (X.z.r X.a) }
theorem Jb.mem {w w':World} {B:Bm} {nf bx:Nat} {M:Mc} {X:Wk} (h:Jb w B nf bx M X) (f:Fr (at' B.bf) w w') {bs:List UInt8} (hr:IsRam w' B.p B.bf nf bs):Jb w' B nf bx { M with bs:=bs } X:=
 {m:=⟨hr,h.m.tlb.keep f (fun e=>h.m.d2 (Eq.symm e)),h.m.vg.keep f (fun b hb k hk e=>h.m.e2 (by have e':k=B.bf:=e;rw[←e'];simp only[Bm.g,hb];exact hk)),h.m.d1,h.m.d2,h.m.d3,h.m.e1,h.m.e2,h.m.e3⟩
  x:=h.x.keep f h.f2,p:=h.p,t:=h.t,v:=h.v,f1:=h.f1,f2:=h.f2,f3:=h.f3,f4:=h.f4,ok:=h.ok,a:=h.a,b:=h.b,c:=h.c,i:=h.i,wd:=h.wd,pc:=h.pc }
theorem fr_f {w w':World} {B:Bm} {bx:Nat} (f:Fr (at' B.bf) w w'):Fr (B.x bx) w w':=f.mono (fun _ _ h=>Or.inl (Or.inl h))
theorem load1_any (w:World) (B:Bm) (nf bx:Nat) (M:Mc) (X:Wk) (bc:Nat) (size:Int) (hc:w.cell? ⟨bc,0,none⟩=some (U κ size)) (nc:¬ B.y bx bc) (h:Jb w B nf bx M X) {n:Nat} (hm:M.few n) (hn:n<999990) (hsz:size=1∨size=4) :
  Calls pQ 113 #[π (some ⟨bx,0,none⟩),π (some ⟨bc,0,none⟩)] w (Don w B nf bx (dM M nf X size 1) (ldX M nf X size) (dT M nf X size 1 2)):=by
 have hD:∀ w1,Jb w1 B nf bx M X→Calls pQ 114 #[π (some ⟨bx,0,none⟩),U κ size,U κ 1,U κ 2] w1 (Dat w1 B nf bx (dM M nf X size 1) X (dP M nf X size 1) (dT M nf X size 1 2)):=fun w1 h1=>data_any w1 B nf bx M X size 1 2 h1 hm hn hsz
 have HZ:Hid ((dT M nf X size 1 2).ca=0→dT M nf X size 1 2=t0):=dT_zero (by decide)
 have hpr:=dP_range hm nf X size 1
 have hbs:=dM_bs M nf X size 1
 have hlv:=lu M.bs (dP M nf X size 1) size nf (by omega)
 obtain ⟨y,hy⟩:∃ y:Nat,j5 M.bs (dP M nf X size 1) size nf=y:=⟨(j5 M.bs (dP M nf X size 1) size nf).toNat,by omega⟩
 have HX:Hid (ldX M nf X size=if (dT M nf X size 1 2).ca≠0 then X else { X with z:=X.z.setR X.a y }):=by
  show _=_
  unfold ldX
  rw[hy,Int.toNat_natCast]
 have hL:∀ w1,Jb w1 B nf bx (dM M nf X size 1) X→Calls pQ 106 #[π (some ⟨B.p,0,none⟩),U κ (dP M nf X size 1),U κ size] w1 fun e w'=>e=ρ (τ #[U μ (y:Int),U κ (dk (dP M nf X size 1) size nf)])∧w'=w1:=fun w1 h1=>by
  have:=load_any w1 B.p B.bf nf M.bs (dP M nf X size 1) size (by have:=h1.m.ram;rw[hbs] at this;exact this) (by omega)
  rw[hy] at this
  exact this
 have hyl:y<4294967296:=by omega
 obtain ⟨X2,hX2⟩:∃ q,ldX M nf X size=q:=⟨_,rfl⟩
 obtain ⟨P2,hP2⟩:∃ q,dP M nf X size 1=q:=⟨_,rfl⟩
 obtain ⟨M2,hM2⟩:∃ q,dM M nf X size 1=q:=⟨_,rfl⟩
 obtain ⟨T2,hT2⟩:∃ q,dT M nf X size 1 2=q:=⟨_,rfl⟩
 rw[hX2,hT2] at HX
 rw[hT2] at HZ
 rw[hM2,hP2,hT2] at hD
 rw[hM2,hP2] at hL
 rw[hX2,hM2,hT2]
 rw[hP2] at hpr
 clear hX2 hP2 hM2 hT2 hm hbs hsz hy hlv
 have f1:=(Fr.refl bg w).alloc (ω #[U κ 0,U κ 0,U κ 0,U κ 0,U κ 0,U κ 0,β false,U κ 0] 52)
 have h1:=h.alloc (ω #[U κ 0,U κ 0,U κ 0,U κ 0,U κ 0,U κ 0,β false,U κ 0] 52)
 have r1:=ba w #[U κ 0,U κ 0,U κ 0,U κ 0,U κ 0,U κ 0,β false,U κ 0] 52
 have c1:=cd f1 hc (fun h=>h)
 have L:Hid (∀ k,B.y bx k→k<w.heap.size):=h.lty
 have nw:¬ at' w.heap.size bc:=vn (qe hc)
 clear hc h
 go_enter Tryz.func113,Tryz.ntmps113
 go_wp2_with fail
 refine(hD _ h1).mono ?_
 rintro e v2 ⟨rfl,f3,h3⟩
 unfold trL
 clear h1 hD
 replace r1:=r1.keep f3 (fun e=>absurd (L.out _ (Or.inl e)) (by omega))
 replace c1:=cd f3 c1 (fun e=>nc (Or.inl e))
 have f4:=(ro (B:=B) (bx:=bx) f1).trans f3
 clear f3 f1
 replace h3:=h3.alloc (ω #[U κ T2.ca,U κ T2.nu,U κ T2.ad,U κ T2.f.k,U κ T2.f.s,U κ T2.f.l,β T2.f.wk,U κ T2.f.p] 52)
 have r9:=ba v2 #[U κ T2.ca,U κ T2.nu,U κ T2.ad,U κ T2.f.k,U κ T2.f.s,U κ T2.f.l,β T2.f.wk,U κ T2.f.p] 52
 replace r1:=r1.alloc (ω #[U κ T2.ca,U κ T2.nu,U κ T2.ad,U κ T2.f.k,U κ T2.f.s,U κ T2.f.l,β T2.f.wk,U κ T2.f.p] 52)
 replace f4:=f4.alloc (ω #[U κ T2.ca,U κ T2.nu,U κ T2.ad,U κ T2.f.k,U κ T2.f.s,U κ T2.f.l,β T2.f.wk,U κ T2.f.p] 52)
 replace c1:=cd ((Fr.refl bg v2).alloc (ω #[U κ T2.ca,U κ T2.nu,U κ T2.ad,U κ T2.f.k,U κ T2.f.s,U κ T2.f.l,β T2.f.wk,U κ T2.f.p] 52)) c1 (fun h=>h)
 go_upto_region 2 with fail
 obtain ⟨v3,hv3⟩:∃ v3,v3=v2.alloc (ω #[U κ T2.ca,U κ T2.nu,U κ T2.ad,U κ T2.f.k,U κ T2.f.s,U κ T2.f.l,β T2.f.wk,U κ T2.f.p] 52):=⟨_,rfl⟩
 rw[←hv3] at h3 r9 r1 f4 c1 ⊢
 clear hv3
 have HJ:Hid (Jb v3 B nf bx M2 X):=h3
 obtain ⟨y0,y1,y2,y3,y4,y5,y6,y7⟩:=jd r9
 by_cases hk:T2.ca=0
 ·have t2:(T2.ca != 0)=false:=by simp[hk]
  have g3:=HZ.out hk
  have g4:=HX.out
  rw[if_neg (by simp[hk])] at g4
  clear HX HZ hk
  have c0:v3.cell? ⟨bx,0,none⟩=some (π (some ⟨B.p,0,none⟩)):=(ln h3.x h3.p h3.t).1
  have hQ:=fun n=>hL (v3.drewN n) (h3.keep0 (bo v3 n))
  clear h3
  go_wp2_with fail
  go_quiet ((go_at_call 106;refine Calls.quiet_of_same (hQ _)))
  have f5:=f4.trans (ro (bo v3 nq))
  have h5:=HJ.out.keep0 (bo v3 nq)
  replace r1:=r1.keep (bo v3 nq) (fun h=>h)
  obtain ⟨v4,hv4⟩:∃ v4,v4=v3.drewN nq:=⟨_,rfl⟩
  rw[←hv4] at f5 h5 r1 ⊢
  clear hv4 f4 HJ hQ c0 c1 y0 y1 y2 y3 y4 y5 y6 y7 r9
  go_wp2_with fail
  refine(qj _ _ _ _ h5.x h5.a).mono ?_
  rintro e v5 ⟨⟨u,rfl⟩,f6,hx⟩
  have h6:=h5.turn f6 hx (h5.ok.setR _ hyl)
  replace r1:=r1.keep f6 (fun e=>absurd (L.out _ (Or.inl (Or.inr e))) (by omega))
  have f7:=f5.trans (fr_x f6)
  have HJ:Hid (Jb v5 B nf bx M2 { X with z:=X.z.setR X.a y }):=h6
  clear h5 h6 hx f5 f6
  obtain ⟨x0,x1,x2,x3,x4,x5,x6,x7⟩:=jd r1
  obtain ⟨z0,z1,z2,z3,z4,z5,z6,z7⟩:=jb r1
  go_wp2_with fail
  refine bodyPost_ret (gl rfl rfl (dz r1 _ _ _ _ _ _ _ _) rfl) rfl ?_
  rw[g3,g4]
  exact je f7 HJ.out (Nat.le_refl _) L.out t0 _ _ _ _ _ _ _ _ rfl
 ·have t2:(T2.ca != 0)=true:=by simp[hk]
  have g4:=HX.out
  rw[if_pos hk] at g4
  clear HX HZ hk h3
  obtain ⟨x0,x1,x2,x3,x4,x5,x6,x7⟩:=jd r1
  obtain ⟨z0,z1,z2,z3,z4,z5,z6,z7⟩:=jb r1
  go_wp2_with fail
  refine bodyPost_ret (gl rfl rfl (dz r1 _ _ _ _ _ _ _ _) rfl) rfl ?_
  rw[g4]
  exact je f4 HJ.out (Nat.le_refl _) L.out T2 _ _ _ _ _ _ _ _ rfl
theorem store1_any (w:World) (B:Bm) (nf bx:Nat) (M:Mc) (X:Wk) (bc:Nat) (size:Int) (hc:w.cell? ⟨bc,0,none⟩=some (U κ size)) (nc:¬ B.y bx bc) (h:Jb w B nf bx M X) {n:Nat} (hm:M.few n) (hn:n<999990) (hsz:size=1∨size=4) :
  Calls pQ 115 #[π (some ⟨bx,0,none⟩),π (some ⟨bc,0,none⟩)] w (Don w B nf bx (stM M nf X size) X (dT M nf X size 2 3)):=by
 have hD:∀ w1,Jb w1 B nf bx M X→Calls pQ 114 #[π (some ⟨bx,0,none⟩),U κ size,U κ 2,U κ 3] w1 (Dat w1 B nf bx (dM M nf X size 2) X (dP M nf X size 2) (dT M nf X size 2 3)):=fun w1 h1=>data_any w1 B nf bx M X size 2 3 h1 hm hn hsz
 have HZ:Hid ((dT M nf X size 2 3).ca=0→dT M nf X size 2 3=t0):=dT_zero (by decide)
 have hpr:=dP_range hm nf X size 2
 have hbs:=dM_bs M nf X size 2
 have HX:Hid (stM M nf X size=if (dT M nf X size 2 3).ca≠0 then dM M nf X size 2 else { dM M nf X size 2 with bs:=kj M.bs (dP M nf X size 2) size nf (X.z.r X.a) }):=rfl
 have hL:∀ w1,Jb w1 B nf bx (dM M nf X size 2) X→Calls pQ 23 #[π (some ⟨B.p,0,none⟩),U κ (dP M nf X size 2),U κ size,U μ ((X.z.r X.a:Nat):Int)] w1 fun e w'=>(∃ u,e=.returned u)∧Fr (at' B.bf) w1 w'∧IsRam w' B.p B.bf nf (kj M.bs (dP M nf X size 2) size nf (X.z.r X.a)):=fun w1 h1=>by
  have:=ws w1 B.p B.bf nf M.bs (dP M nf X size 2) size (X.z.r X.a) (by have:=h1.m.ram;rw[hbs] at this;exact this) (by omega) (h1.ok.r X.a)
  exact this.mono (fun e w' ⟨a,b,c⟩=>⟨⟨_,a⟩,b,c⟩)
 obtain ⟨bs2,hb2⟩:∃ bs2,kj M.bs (dP M nf X size 2) size nf (X.z.r X.a)=bs2:=⟨_,rfl⟩
 rw[hb2] at hL HX
 obtain ⟨M3,hX2⟩:∃ q,stM M nf X size=q:=⟨_,rfl⟩
 obtain ⟨P2,hP2⟩:∃ q,dP M nf X size 2=q:=⟨_,rfl⟩
 obtain ⟨M2,hM2⟩:∃ q,dM M nf X size 2=q:=⟨_,rfl⟩
 obtain ⟨T2,hT2⟩:∃ q,dT M nf X size 2 3=q:=⟨_,rfl⟩
 rw[hX2,hT2,hM2] at HX
 rw[hT2] at HZ
 rw[hM2,hP2,hT2] at hD
 rw[hM2,hP2] at hL
 rw[hX2,hT2]
 rw[hP2] at hpr
 clear hX2 hP2 hM2 hT2 hm hbs hsz hb2
 have f1:=(Fr.refl bg w).alloc (ω #[U κ 0,U κ 0,U κ 0,U κ 0,U κ 0,U κ 0,β false,U κ 0] 52)
 have h1:=h.alloc (ω #[U κ 0,U κ 0,U κ 0,U κ 0,U κ 0,U κ 0,β false,U κ 0] 52)
 have r1:=ba w #[U κ 0,U κ 0,U κ 0,U κ 0,U κ 0,U κ 0,β false,U κ 0] 52
 have c1:=cd f1 hc (fun h=>h)
 have L:Hid (∀ k,B.y bx k→k<w.heap.size):=h.lty
 have nw:¬ at' w.heap.size bc:=vn (qe hc)
 clear hc h
 go_enter Tryz.func115,Tryz.ntmps115
 go_wp2_with fail
 refine(hD _ h1).mono ?_
 rintro e v2 ⟨rfl,f3,h3⟩
 unfold trL
 clear h1 hD
 replace r1:=r1.keep f3 (fun e=>absurd (L.out _ (Or.inl e)) (by omega))
 replace c1:=cd f3 c1 (fun e=>nc (Or.inl e))
 have f4:=(ro (B:=B) (bx:=bx) f1).trans f3
 clear f3 f1
 replace h3:=h3.alloc (ω #[U κ T2.ca,U κ T2.nu,U κ T2.ad,U κ T2.f.k,U κ T2.f.s,U κ T2.f.l,β T2.f.wk,U κ T2.f.p] 52)
 have r9:=ba v2 #[U κ T2.ca,U κ T2.nu,U κ T2.ad,U κ T2.f.k,U κ T2.f.s,U κ T2.f.l,β T2.f.wk,U κ T2.f.p] 52
 replace r1:=r1.alloc (ω #[U κ T2.ca,U κ T2.nu,U κ T2.ad,U κ T2.f.k,U κ T2.f.s,U κ T2.f.l,β T2.f.wk,U κ T2.f.p] 52)
 replace f4:=f4.alloc (ω #[U κ T2.ca,U κ T2.nu,U κ T2.ad,U κ T2.f.k,U κ T2.f.s,U κ T2.f.l,β T2.f.wk,U κ T2.f.p] 52)
 replace c1:=cd ((Fr.refl bg v2).alloc (ω #[U κ T2.ca,U κ T2.nu,U κ T2.ad,U κ T2.f.k,U κ T2.f.s,U κ T2.f.l,β T2.f.wk,U κ T2.f.p] 52)) c1 (fun h=>h)
 go_upto_region 2 with fail
 obtain ⟨v3,hv3⟩:∃ v3,v3=v2.alloc (ω #[U κ T2.ca,U κ T2.nu,U κ T2.ad,U κ T2.f.k,U κ T2.f.s,U κ T2.f.l,β T2.f.wk,U κ T2.f.p] 52):=⟨_,rfl⟩
 rw[←hv3] at h3 r9 r1 f4 c1 ⊢
 clear hv3
 have HJ:Hid (Jb v3 B nf bx M2 X):=h3
 obtain ⟨y0,y1,y2,y3,y4,y5,y6,y7⟩:=jd r9
 by_cases hk:T2.ca=0
 ·have t2:(T2.ca != 0)=false:=by simp[hk]
  have g3:=HZ.out hk
  have g4:=HX.out
  rw[if_neg (by simp[hk])] at g4
  clear HX HZ hk
  have c0:v3.cell? ⟨bx,0,none⟩=some (π (some ⟨B.p,0,none⟩)):=(ln h3.x h3.p h3.t).1
  have ca:=h3.a
  clear h3
  go_wp2_with fail
  go_region_held3 (fun w'=>w'.cell? ⟨bx,0,none⟩=some (π (some ⟨B.p,0,none⟩))∧w'.cell? ⟨bc,0,none⟩=some (U κ size)) (first | with_reducible exact ⟨c0,c1⟩ | with_reducible exact ⟨e0,e1⟩ | with_reducible exact ⟨k0,k1⟩ | exact ⟨c0,c1⟩) (first
   | (go_at_call 116;refine(a_any _ _ _ HJ.out.drew.x HJ.out.a).mono ?_;rintro e v ⟨rfl,m,rfl⟩;obtain ⟨v,hv,fv⟩:=nk (w:=v3.drew) m;rw[←hv];have hJ:=HJ.out.drew.keep0 fv;have e0:=cd fv (show v3.drew.cell? _=_ from c0) (fun h=>h);have e1:=cd fv (show v3.drew.cell? _=_ from c1) (fun h=>h);have r5:=r1.drew.keep fv (fun h=>h);have f5:=f4.drew.trans (ro fv);clear hv fv)
   | (go_at_call 23;refine(hL _ hJ).mono ?_;rintro e v4 ⟨⟨u,rfl⟩,f6,hr⟩;have k0:=cd f6 e0 hJ.f2;have k1:=cd f6 e1 (fun e=>nc (Or.inl (Or.inl (Or.inl e))));have h6:=hJ.mem f6 hr))
  all_goals have r6:=r5.keep f6 (fun e=>absurd (L.out _ (Or.inl (Or.inl (Or.inl e)))) (by omega))
  all_goals have f7:=f5.trans (fr_f f6)
  all_goals have HK:Hid (Jb v4 B nf bx { M2 with bs:=bs2 } X):=h6
  all_goals clear hJ h6 hr f5 f6
  all_goals obtain ⟨x0,x1,x2,x3,x4,x5,x6,x7⟩:=jd r6
  all_goals obtain ⟨z0,z1,z2,z3,z4,z5,z6,z7⟩:=jb r6
  all_goals go_wp2_with fail
  all_goals refine bodyPost_ret (gl rfl rfl (dz r6 _ _ _ _ _ _ _ _) rfl) rfl ?_
  all_goals rw[g3,g4]
  all_goals exact je f7 HK.out (Nat.le_refl _) L.out t0 _ _ _ _ _ _ _ _ rfl
 ·have t2:(T2.ca != 0)=true:=by simp[hk]
  have g4:=HX.out
  rw[if_pos hk] at g4
  clear HX HZ hk h3
  obtain ⟨x0,x1,x2,x3,x4,x5,x6,x7⟩:=jd r1
  obtain ⟨z0,z1,z2,z3,z4,z5,z6,z7⟩:=jb r1
  go_wp2_with fail
  refine bodyPost_ret (gl rfl rfl (dz r1 _ _ _ _ _ _ _ _) rfl) rfl ?_
  rw[g4]
  exact je f4 HJ.out (Nat.le_refl _) L.out T2 _ _ _ _ _ _ _ _ rfl
end Go.Proofs.YtibhbjbpodlpiaaGreat
