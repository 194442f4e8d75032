/-
  Contracts over the translation. No statement is proved here.
-/
import Derived.Test.YtibhbjbpodlpiaaGreatQCpuAwake
import Derived.Test.YtibhbjbpodlpiaaGreatQJS
import Derived.Test.YtibhbjbpodlpiaaGreatQJX
set_option maxRecDepth 100000
set_option maxHeartbeats 8000000
namespace Go.Proofs.YtibhbjbpodlpiaaGreat
open Go.RowKit
open Go.Value renaming int → U, bool → β, pointer → π, tuple → τ
open Go.IntKind renaming i64 → κ, u32 → μ
open Go.Obj renaming cells → ω
open Go.Ending renaming returned → ρ
open Go.Proofs.Tryz renaming prog → pQ
section
open Go.RowKit Go.Sort
def Bo.D (O:Bo):Bd:=⟨O.pr,O.br,O.bu,O.vr⟩
theorem rvO_of {w:World} {b:Option Nat} {V:Option Vg} (h:IsRvO w b V):RvO w b V:=by
 cases b <;> cases V <;> exact h
theorem IsBo.d {w:World} {n:Nat} {O:Bo} {M:Mc} (h:IsBo w n O M):IsMd w O.D 16 M:=⟨h.r,h.t,rvO_of h.v,h.apr.1,h.apr.2.1,h.apr.2.2⟩
def LrA (w:World) (a:Option Addr) (L:List Lr):Prop:=
 ∀ i x,L[i]? = some x→∃ g,a=some ⟨g,0,none⟩∧w.cell? ⟨g,i*5,none⟩=some (U κ x.id)∧w.cell? ⟨g,i*5+1,none⟩=some (U κ x.p)∧w.cell? ⟨g,i*5+2,none⟩=some (β x.lv)∧w.cell? ⟨g,i*5+3,none⟩=some (β x.pe)∧w.cell? ⟨g,i*5+4,none⟩=some (β x.ac)
theorem LrS.open {w:World} {B:Nat} {v:Value} {L:List Lr} (h:LrS w B v L):∃ a cap,v=.slice a L.length cap∧L.length≤cap∧cap≤maxLen∧LrA w a L∧LrS w B (.slice a L.length cap) L:=by
 rcases h with ⟨rfl,rfl⟩ | ⟨g,cap,cs,rfl,hb,hc,hm,hr,hx⟩
 ·exact ⟨none,0,rfl,Nat.le_refl _,by simp[maxLen],fun i x h=>by simp at h,Or.inl ⟨rfl,rfl⟩⟩
 ·refine ⟨_,cap,rfl,hc,hm,fun i x h=>?_,Or.inr ⟨g,cap,cs,rfl,hb,hc,hm,hr,hx⟩⟩
  have q:=hx i x h
  exact ⟨g,rfl,(hr.cell _).trans q.c0,(hr.cell _).trans q.c1,(hr.cell _).trans q.c2,(hr.cell _).trans q.c3,(hr.cell _).trans q.c4⟩
theorem LrA.keep {w w':World} {a:Option Addr} {L:List Lr} (h:LrA w a L) (f:Fr bg w w'):LrA w' a L:=fun i x hx=>by
 obtain ⟨g,e,h0,h1,h2,h3,h4⟩:=h i x hx
 exact ⟨g,e,cd f h0 (fun h=>h),cd f h1 (fun h=>h),cd f h2 (fun h=>h),cd f h3 (fun h=>h),cd f h4 (fun h=>h)⟩
theorem neq_lr (i p:Int) (l e a:Bool) (w:World):(binOp .neq 132 (.agg #[U κ i,U κ p,β l,β e,β a]) (.agg #[U κ i,U κ p,β l,β e,β a])).run pQ w=.ok (β false) w:=by
 simp[go_sem]
theorem neq_lns (v a p f r:Int) (w:World):(binOp .neq 85 (.agg #[U κ v,U κ a,U κ p,U κ f,U κ r]) (.agg #[U κ v,U κ a,U κ p,U κ f,U κ r])).run pQ w=.ok (β false) w:=by
 simp[go_sem]
structure Sm (w wr:World) (O:Bo) (M:Mc) (gb:Nat):Prop where
 f:Fr bg w wr
 r8:Row wr gb O.a 44
 m:IsMc wr O.B 16 M
 r:IsMd wr O.D 16 M
theorem Sm.keep {w wr wr':World} {O:Bo} {M:Mc} {gb:Nat} (h:Sm w wr O M gb) (k:Fr bg wr wr'):Sm w wr' O M gb:=⟨h.f.trans k,h.r8.keep k (fun h=>h),h.m.keep0 k,h.r.keep0 k⟩
theorem dsame_any (w:World) (O:Bo) (M:Mc) (hM:IsMc w O.B 16 M) (hD:IsMd w O.D 16 M) :
  Calls pQ 16 #[.agg O.a] w fun e w'=>e=ρ (β true)∧Fr bg w w':=by
 have HS:Hid (Sm w (w.alloc (.cells O.a 44)) O M w.heap.size):=⟨(Fr.refl bg w).alloc _,ba w O.a _,hM.keep0 ((Fr.refl bg w).alloc _),hD.keep0 ((Fr.refl bg w).alloc _)⟩
 clear hM hD
 go_enter Tryz.func16,Tryz.ntmps16
 go_upto_region 1 with fail
 obtain ⟨v0,hv0⟩:∃ v0,v0=w.alloc (.cells O.a 44):=⟨_,rfl⟩
 obtain ⟨gb,hgb⟩:∃ gb,gb=w.heap.size:=⟨_,rfl⟩
 rw[←hv0] at HS ⊢
 rw[←hgb] at HS ⊢
 clear hv0 hgb
 go_wp2_with fail
 go_loopw [3,4,5,6,7,8] (fun i _ _ _ _ _ wr=>∃ k:Nat,k≤16∧i=U κ (k:Int)∧Hid (Sm w wr O M gb)) (fun i _ _ _ _ _ _=>16-(intOf i).toNat)
 case atStart=>exact ⟨0,by omega,rfl,HS⟩
 case round =>
  clear HS
  obtain ⟨k,hk,rfl,HH⟩:=hrel
  by_cases hlt:k<16
  ·have uk:decide ((k:Int)<16)=true:=decide_eq_true (by omega)
   have y0:wr.cell? ⟨gb,0,none⟩=some (π (some ⟨O.B.p,0,none⟩)):=HH.out.r8.cell 0
   have hln:=HH.out.m.ram.len
   have HL1:Hid ((le M.bs k).length=64):=ko _ k 16 hln hlt
   clear hln
   go_wp2_with fail
   refine(frame_ok _ _ _ _ _ _ HH.out.m.ram hlt).mono ?_
   rintro e v3 ⟨rfl,f3,r3⟩
   replace HH:Hid (Sm w v3 O M gb):=HH.out.keep f3
   clear y0 f3
   have y3:v3.cell? ⟨gb,3,none⟩=some (π (some ⟨O.pr,0,none⟩)):=HH.out.r8.cell 3
   go_wp2_with fail
   refine(rframe_ok _ _ _ _ _ k HH.out.r.r hlt).mono ?_
   rintro e v4 ⟨g,cap,rfl,_,f4,b4⟩
   replace HH:Hid (Sm w v4 O M gb):=HH.out.keep f4
   replace r3:=r3.keep f4 (fun h=>h)
   have SS:=same_any v4 (some ⟨wr.heap.size,0,none⟩) (some ⟨g,0,none⟩) 64 64 64 cap _ _ HL1.out HL1.out (by omega) (begins_row r3).src b4.src
   rw[decide_eq_true rfl] at SS
   clear y3 f4 r3 b4 HL1
   go_wp2_with fail
   refine SS.mono ?_
   rintro e v5 ⟨rfl,f5⟩
   replace HH:Hid (Sm w v5 O M gb):=HH.out.keep f5
   clear SS f5
   go_wp2_with fail
   go_roundw
   case rel=>exact ⟨k+1,by omega,by go_num,HH⟩
   case measure=>simp[intOf];omega
  ·have uk:decide ((k:Int)<16)=false:=decide_eq_false (by omega)
   clear hlt hk
   have y1:wr.cell? ⟨gb,1,none⟩=some (π (some ⟨O.B.bt,0,none⟩)):=HH.out.r8.cell 1
   go_wp2_with fail
   refine(lines_any _ _ _ _ _ HH.out.m.tlb).mono ?_
   rintro e v3 ⟨g,rfl,_,f3,l3⟩
   have HL:Hid (Sm w v3 O M gb∧LineRow v3 g 8 8 M.T):=⟨HH.out.keep f3,l3⟩
   clear y1 f3 l3 HH uk
   go_wp2_with fail
   go_loopw [10] (fun i wr=>∃ k:Nat,k≤8∧i=U κ (k:Int)∧Hid (Sm w wr O M gb∧LineRow wr g 8 8 M.T)) (fun i _=>8-(intOf i).toNat)
   case atStart=>exact ⟨0,by omega,rfl,HL⟩
   case round =>
    clear HL
    obtain ⟨k,hk,rfl,HH⟩:=hrel
    by_cases hlt:k<8
    ·have uk:decide ((k:Int)<8)=true:=decide_eq_true (by omega)
     have i1:0≤(k:Int)∧(k:Int)<8:=by omega
     obtain ⟨c0,c1,c2,c3,c4⟩:=HH.out.2.cells k hlt
     obtain ⟨d0,d1,d2,d3,d4⟩:=HH.out.1.r.t.cells k hlt
     have y4:wr.cell? ⟨gb,4,none⟩=some (π (some ⟨O.bu,0,none⟩)):=HH.out.1.r8.cell 4
     have hne:=neq_lns (M.T k).v (M.T k).a (M.T k).p (M.T k).f (M.T k).r
     generalize (M.T k).v=tv at *
     generalize (M.T k).a=ta at *
     generalize (M.T k).p=tp at *
     generalize (M.T k).f=tf at *
     generalize (M.T k).r=tr at *
     have hd:O.D.t=O.bu:=rfl
     rw[hd] at d0 d1 d2 d3 d4
     clear hd
     go_wp2_with fail
     go_quiet (fail)
     go_wp2_with fail
     go_roundw
     case rel=>exact ⟨k+1,by omega,by go_num,HH.out.1.keep (bo _ _),HH.out.2.keep (bo _ _) (fun h=>h)⟩
     case measure=>simp[intOf];omega
    ·have uk:decide ((k:Int)<8)=false:=decide_eq_false (by omega)
     replace HH:Hid (Sm w wr O M gb):=HH.out.1
     clear hlt hk
     have y2:wr.cell? ⟨gb,2,none⟩=some (gu (O.B.v.map Bk.b)):=HH.out.r8.cell 2
     cases hv:O.B.v with
     | none =>
      rw[hv] at y2
      replace y2:wr.cell? ⟨gb,2,none⟩=some (π none):=y2
      have HE:Hid (Fr bg w wr):=HH.out.f
      clear HH
      go_wp2_with fail
      go_ret
      exact ⟨rfl,HE.out⟩
     | some B =>
      rw[hv] at y2
      replace y2:wr.cell? ⟨gb,2,none⟩=some (π (some ⟨B.b,0,none⟩)):=y2
      have hvg:=HH.out.m.vg
      rw[hv] at hvg
      obtain ⟨S,hS⟩:∃ S,M.V=some S:=by
       cases hq:M.V with
       | none=>rw[hq] at hvg;exact hvg.elim
       | some S=>exact ⟨S,rfl⟩
      have hrv:=HH.out.r.v
      obtain ⟨b,hb⟩:∃ b,O.vr=some b:=by
       have q:=hrv.same
       rw[hS] at q
       exact Option.isSome_iff_exists.1 q
      have HV:Hid (M.V=some S∧O.vr=some b∧O.B.v=some B):=⟨hS,hb,hv⟩
      rw[hS] at hvg
      have hAll:=all_any wr B S hvg
      have hg:=hvg.good
      have hL64:=len_all hg
      have hRA:∀ W,Sm w W O M gb→Calls pQ 47 #[π (some ⟨b,0,none⟩)] W fun e w'=>∃ v,e=.returned v∧LrS w' W.heap.size v (allL S)∧Fr bg W w':=fun W h=>by
       have q:=h.r.v
       rw[HV.out.1] at q
       change RvO W O.vr (some S) at q
       rw[HV.out.2.1] at q
       obtain ⟨⟨T,hT,hR⟩,hg⟩:=(show IsRv W b S from q)
       exact rall_any W b T S hT hR hg
      generalize allL S=L at *
      clear hvg hS hrv hb hv hg
      go_wp2_with fail
      refine hAll.mono ?_
      rintro e v9 ⟨x9,rfl,l9,f9⟩
      replace HH:Hid (Sm w v9 O M gb):=HH.out.keep f9
      clear y2 hAll f9
      have y5:v9.cell? ⟨gb,5,none⟩=some (π (some ⟨b,0,none⟩)):=by
       have q:v9.cell? ⟨gb,5,none⟩=some (gu O.vr):=HH.out.r8.cell 5
       rw[HV.out.2.1] at q
       exact q
      go_wp2_with fail
      refine(hRA _ HH.out).mono ?_
      rintro e vA ⟨xA,rfl,lA,fA⟩
      replace HH:Hid (Sm w vA O M gb):=HH.out.keep fA
      replace l9:=l9.keep0 fA
      clear y5 hRA fA
      obtain ⟨a1,c1,rfl,_,_,h1,_⟩:=l9.open
      obtain ⟨a2,c2,rfl,_,_,h2,_⟩:=lA.open
      have HQ:Hid (Sm w vA O M gb∧LrA vA a1 L∧LrA vA a2 L):=⟨HH.out,h1,h2⟩
      have u0:((L.length:Int) != (L.length:Int))=false:=by simp
      have HN:Hid (L.length≤64):=hL64
      generalize hnn:L.length=n at *
      have HNN:Hid (L.length=n):=hnn
      clear l9 lA h1 h2 HH hL64 hnn
      go_wp2_with fail
      go_loopw [13] (fun i wr=>∃ k:Nat,k≤n∧i=U κ (k:Int)∧Hid (Sm w wr O M gb∧LrA wr a1 L∧LrA wr a2 L)) (fun i _=>n-(intOf i).toNat)
      case atStart=>exact ⟨0,by omega,rfl,HQ⟩
      case round =>
       clear HQ
       obtain ⟨k,hk,rfl,HH⟩:=hrel
       by_cases hlt:k<n
       ·have u1:decide ((k:Int)<(n:Int))=true:=decide_eq_true (by omega)
        have hn64:n≤64:=HN.out
        have i1:0≤(k:Int)∧(k:Int)<(n:Int):=by omega
        obtain ⟨x,hx⟩:∃ x,L[k]? = some x:=⟨_,List.getElem?_eq_getElem (by rw[HNN.out];exact hlt)⟩
        obtain ⟨g1,rfl,k0,k1,k2,k3,k4⟩:=HH.out.2.1 k x hx
        obtain ⟨g2,rfl,m0,m1,m2,m3,m4⟩:=HH.out.2.2 k x hx
        have hne:=neq_lr x.id x.p x.lv x.pe x.ac
        clear hx
        generalize x.id=xi at *;generalize x.p=xp at *;generalize x.lv=xl at *;generalize x.pe=xe at *;generalize x.ac=xa at *
        go_wp2_with fail
        go_quiet (fail)
        go_wp2_with fail
        go_roundw
        case rel=>exact ⟨k+1,by omega,by go_num,HH.out.1.keep (bo _ _),HH.out.2.1.keep (bo _ _),HH.out.2.2.keep (bo _ _)⟩
        case measure=>simp[intOf];omega
       ·have u1:decide ((k:Int)<(n:Int))=false:=decide_eq_false (by omega)
        have HE:Hid (Fr bg w wr):=HH.out.1.f
        clear HH u1
        go_wp2_with fail
        go_ret
        exact ⟨rfl,HE.out⟩
end
end Go.Proofs.YtibhbjbpodlpiaaGreat
