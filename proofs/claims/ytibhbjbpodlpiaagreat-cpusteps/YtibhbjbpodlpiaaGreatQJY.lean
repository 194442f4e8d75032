/-
  Contracts over the translation. No statement is proved here.
-/
import Derived.ChangeKeysEq
import Derived.Deep.CutRange
import Derived.Deep.Fields
import Derived.SizedLaws
import Derived.OpenShut
import Derived.ShutString
import Derived.ChangeOld
import Derived.Test.YtibhbjbpodlpiaaGreatQCpuAwake
set_option maxRecDepth 100000
set_option maxHeartbeats 8000000
namespace Go.Proofs.YtibhbjbpodlpiaaGreat
open Go.RowKit
open Go.Value renaming int → U, bool → β, pointer → π, tuple → τ
open Go.IntKind renaming i64 → κ, u32 → μ
open Go.Obj renaming cells → ω
open Go.Ending renaming returned → ρ
open Go.Proofs.Tryz renaming prog → pQ
def exM (W:Nat) (g:Bool):Mc:=rcM (M0 (exB W) g) 16 1 0 (-1) 3 0 4 0
def exX (W:Nat) (c:Cp):Wk:=⟨0,0,none,1,0,-1,3,0,0,W,(dOp (W:Int)).toNat,(dA (W:Int)).toNat,(dB (W:Int)).toNat,(dC (W:Int)).toNat,(dI (W:Int)).toNat,c.setP 4⟩
def ceq (c d:Cp):Bool:=(List.range 16).all (fun i=>((c.r i:Nat):Int) == ((d.r i:Nat):Int)) && (c.pc == d.pc && (List.range 8).all (fun i=>((c.s i:Nat):Int) == ((d.s i:Nat):Int)))
theorem ceq_self (c:Cp):ceq c c=true:=by simp[ceq]
theorem part_u32 {xs:Array Value} {i:Nat} {x:Int} (h:xs[i]? = some (U μ x)) (w:World):(part 26 xs i).run pQ w=.ok (U μ x) w:=by
 simp[part,isAgg,run_underlying Tryz.underlying26,h]
theorem sn (d:Nat) (xs ys:Array Value) (f g:Nat→Int) (w:World):∀ is:List Nat,(∀ i ∈ is,xs[i]? = some (U μ (f i))∧ys[i]? = some (U μ (g i)))→(Op.eqItems (d+1) 26 1 xs ys is).run pQ w=.ok (is.all (fun i=>f i == g i)) w
 | [],_=>by simp[Op.eqItems]
 | i :: is,h=>by
  have h1:=h i (by simp)
  have ih:=sn d xs ys f g w is (fun j hj=>h j (by simp[hj]))
  have p1:=part_u32 (i:=i*1) (by rw[Nat.mul_one];exact h1.1) w
  have p2:=part_u32 (i:=i*1) (by rw[Nat.mul_one];exact h1.2) w
  simp only[Op.eqItems,Sem.run_bind,p1,p2,Result.andThen_ok,run_equalIn_int w d 26 .u32 .u32 (f i) (g i) Tryz.underlying26]
  cases hh:(f i == g i) with
  | false=>simp[hh]
  | true=>simp[hh,ih]
theorem p9:Tryz.prog.cellsOf 26=1:=by kernel_rfl
theorem info_u32:∃ i,Tryz.prog.info? 26=some i:=by
 have h:(Tryz.prog.info? 26).isSome=true:=by kernel_rfl
 exact Option.isSome_iff_exists.1 h
theorem eq_regs (c d:Cp) (w:World):(Op.equalIn 9999 27 (.agg #[U μ ((c.r 0:Nat):Int),U μ ((c.r 1:Nat):Int),U μ ((c.r 2:Nat):Int),U μ ((c.r 3:Nat):Int),U μ ((c.r 4:Nat):Int),U μ ((c.r 5:Nat):Int),U μ ((c.r 6:Nat):Int),U μ ((c.r 7:Nat):Int),U μ ((c.r 8:Nat):Int),U μ ((c.r 9:Nat):Int),U μ ((c.r 10:Nat):Int),U μ ((c.r 11:Nat):Int),U μ ((c.r 12:Nat):Int),U μ ((c.r 13:Nat):Int),U μ ((c.r 14:Nat):Int),U μ ((c.r 15:Nat):Int)]) (.agg #[U μ ((d.r 0:Nat):Int),U μ ((d.r 1:Nat):Int),U μ ((d.r 2:Nat):Int),U μ ((d.r 3:Nat):Int),U μ ((d.r 4:Nat):Int),U μ ((d.r 5:Nat):Int),U μ ((d.r 6:Nat):Int),U μ ((d.r 7:Nat):Int),U μ ((d.r 8:Nat):Int),U μ ((d.r 9:Nat):Int),U μ ((d.r 10:Nat):Int),U μ ((d.r 11:Nat):Int),U μ ((d.r 12:Nat):Int),U μ ((d.r 13:Nat):Int),U μ ((d.r 14:Nat):Int),U μ ((d.r 15:Nat):Int)])).run pQ w=.ok ((List.range 16).all (fun i=>((c.r i:Nat):Int) == ((d.r i:Nat):Int))) w:=by
 obtain ⟨i,hi⟩:=info_u32
 rw[show(9999:Nat)=9998+1 by rfl,run_equalIn_array w 9998 _ _ Tryz.underlying27 hi,p9]
 refine sn 9997 _ _ (fun i=>((c.r i:Nat):Int)) (fun i=>((d.r i:Nat):Int)) w _ (fun j hj=>?_)
 have hj':j<16:=List.mem_range.1 hj
 have:j=0∨j=1∨j=2∨j=3∨j=4∨j=5∨j=6∨j=7∨j=8∨j=9∨j=10∨j=11∨j=12∨j=13∨j=14∨j=15:=by omega
 rcases this with rfl | rfl | rfl | rfl | rfl | rfl | rfl | rfl | rfl | rfl | rfl | rfl | rfl | rfl | rfl | rfl <;> exact ⟨rfl,rfl⟩
theorem eq_syss (c d:Cp) (w:World):(Op.equalIn 9999 28 (.agg #[U μ ((c.s 0:Nat):Int),U μ ((c.s 1:Nat):Int),U μ ((c.s 2:Nat):Int),U μ ((c.s 3:Nat):Int),U μ ((c.s 4:Nat):Int),U μ ((c.s 5:Nat):Int),U μ ((c.s 6:Nat):Int),U μ ((c.s 7:Nat):Int)]) (.agg #[U μ ((d.s 0:Nat):Int),U μ ((d.s 1:Nat):Int),U μ ((d.s 2:Nat):Int),U μ ((d.s 3:Nat):Int),U μ ((d.s 4:Nat):Int),U μ ((d.s 5:Nat):Int),U μ ((d.s 6:Nat):Int),U μ ((d.s 7:Nat):Int)])).run pQ w=.ok ((List.range 8).all (fun i=>((c.s i:Nat):Int) == ((d.s i:Nat):Int))) w:=by
 obtain ⟨i,hi⟩:=info_u32
 rw[show(9999:Nat)=9998+1 by rfl,run_equalIn_array w 9998 _ _ Tryz.underlying28 hi,p9]
 refine sn 9997 _ _ (fun i=>((c.s i:Nat):Int)) (fun i=>((d.s i:Nat):Int)) w _ (fun j hj=>?_)
 have hj':j<8:=List.mem_range.1 hj
 have:j=0∨j=1∨j=2∨j=3∨j=4∨j=5∨j=6∨j=7:=by omega
 rcases this with rfl | rfl | rfl | rfl | rfl | rfl | rfl | rfl <;> exact ⟨rfl,rfl⟩
theorem neq_cpu (c d:Cp) (w:World):(binOp .neq 30 (.agg (cpA c)) (.agg (cpA d))).run pQ w=.ok (β !(ceq c d)) w:=by
 have h1:=eq_regs c d
 have h2:=eq_syss c d
 unfold ceq
 obtain ⟨x,hx⟩:∃ x,(List.range 16).all (fun i=>((c.r i:Nat):Int) == ((d.r i:Nat):Int))=x:=⟨_,rfl⟩
 obtain ⟨y,hy⟩:∃ y,(List.range 8).all (fun i=>((c.s i:Nat):Int) == ((d.s i:Nat):Int))=y:=⟨_,rfl⟩
 rw[hx] at h1 ⊢
 rw[hy] at h2 ⊢
 rw[cpA_eq,cpA_eq]
 clear hx hy
 cases x <;> cases y <;> cases hp:(c.pc == d.pc) <;> simp[go_sem,h1,h2,hp]
def cin (w:Nat):Cp:=(zc.setR 2 w).setS 6 77
def W1 (n:Nat):Nat:=335675392+n
def W2 (n:Nat):Nat:=321912832+n
theorem cpA_setP (c:Cp) (x:Int):(cpA c).setIfInBounds 16 (U κ x)=cpA (c.setP x):=rfl
theorem p7 {w:World} {g:Nat} {c:Cp} {t:TypeId} (h:Row w g (cpA c) t):∀ j v,(cpA c)[j]? = some v→w.cell? ⟨g,j,none⟩=some v:=fun j _ hv=>(h.cell j).trans hv
section
open Go.ChangeShapes Go.WideShapes Go.ChangeAt Go.RowKit Go.Deep
theorem own_knob:ownKnob Tryz.prog.godebug=none:=by kernel_rfl
theorem laid_out:laidOutB pQ=true:=by kernel_rfl
theorem cells_ent:Tryz.prog.cellsOf 77=4:=by kernel_rfl
theorem kb:Tryz.prog.cellsOf 3=1:=by kernel_rfl
theorem qz:Tryz.prog.cellsOf 4=1:=by kernel_rfl
theorem gh {cs:List Value} (i:Nat) (hi:i<cs.length):(cs.drop i).take 1=[cs[i]]:=by
 rw[List.drop_eq_getElem_cons (by omega),List.take_succ_cons,List.take_zero]
theorem ent_cells {H:Type} {enc:TypeId×Value→H} {W:World} {n:Nat} {cs:List Value} {x:DataW H×List MemPlace} (h:DataW.trod enc pQ W 0 (fun _=>true) true n 77 cs=some x) :
  ∃ (v l:Bool) (r f:Int),cs=[β v,β l,U κ r,U κ f]:=by
 obtain ⟨xs,n',_,_,hl,hxl,hf⟩:=DataW.trod_struct Tryz.underlying77 h
 rw[cells_ent] at hl
 have hxl':xs.length=4:=hxl
 have g0:DataW.trod enc pQ W 0 (fun _=>true) true n' 4 ((cs.drop 0).take (Tryz.prog.cellsOf 4))=xs[0]?:=hf 0 _ rfl
 have g1:DataW.trod enc pQ W 0 (fun _=>true) true n' 4 ((cs.drop 1).take (Tryz.prog.cellsOf 4))=xs[1]?:=hf 1 _ rfl
 have g2:DataW.trod enc pQ W 0 (fun _=>true) true n' 3 ((cs.drop 2).take (Tryz.prog.cellsOf 3))=xs[2]?:=hf 2 _ rfl
 have g3:DataW.trod enc pQ W 0 (fun _=>true) true n' 3 ((cs.drop 3).take (Tryz.prog.cellsOf 3))=xs[3]?:=hf 3 _ rfl
 rw[qz,gh 0 (by omega),List.getElem?_eq_getElem (by omega)] at g0
 rw[qz,gh 1 (by omega),List.getElem?_eq_getElem (by omega)] at g1
 rw[kb,gh 2 (by omega),List.getElem?_eq_getElem (by omega)] at g2
 rw[kb,gh 3 (by omega),List.getElem?_eq_getElem (by omega)] at g3
 obtain ⟨v,e0,_⟩:=DataW.trod_bool Tryz.underlying4 g0
 obtain ⟨l,e1,_⟩:=DataW.trod_bool Tryz.underlying4 g1
 obtain ⟨r,e2,_,_⟩:=DataW.trod_int Tryz.underlying3 g2
 obtain ⟨f,e3,_,_⟩:=DataW.trod_int Tryz.underlying3 g3
 simp only[List.cons.injEq,and_true] at e0 e1 e2 e3
 refine ⟨v,l,r,f,?_⟩
 match cs,hl with
 | [a,b,c,d],_ =>
  simp only[List.getElem_cons_zero,List.getElem_cons_succ] at e0 e1 e2 e3
  rw[e0,e1,e2,e3]
end
section
open Go.ChangeShapes Go.WideShapes Go.ChangeAt Go.RowKit Go.Deep
theorem cells_pu:Tryz.prog.cellsOf 79=6:=by kernel_rfl
theorem cells_wo:Tryz.prog.cellsOf 83=2:=by kernel_rfl
theorem cells_pus:Tryz.prog.cellsOf 22=1:=by kernel_rfl
theorem cells_wos:Tryz.prog.cellsOf 23=1:=by kernel_rfl
theorem cells_world:Tryz.prog.cellsOf 25=5:=by kernel_rfl
theorem cells_cpu:Tryz.prog.cellsOf 30=25:=by kernel_rfl
theorem cells_a16:Tryz.prog.cellsOf 27=16:=by kernel_rfl
theorem cells_a8:Tryz.prog.cellsOf 28=8:=by kernel_rfl
theorem pu_cells {H:Type} {enc:TypeId×Value→H} {W:World} {n:Nat} {cs:List Value} {y:DataW H×List MemPlace} (h:DataW.trod enc pQ W 0 (fun _=>true) true n 79 cs=some y) :
  ∃ q:Pu,cs=[U κ q.t,U κ q.i,β q.v,β q.l,U κ q.r,U κ q.f]:=by
 obtain ⟨xs,n',_,_,hl,hxl,hf⟩:=DataW.trod_struct Tryz.underlying79 h
 rw[cells_pu] at hl
 have hxl':xs.length=3:=hxl
 have g0:DataW.trod enc pQ W 0 (fun _=>true) true n' 3 ((cs.drop 0).take (Tryz.prog.cellsOf 3))=xs[0]?:=hf 0 _ rfl
 have g1:DataW.trod enc pQ W 0 (fun _=>true) true n' 3 ((cs.drop 1).take (Tryz.prog.cellsOf 3))=xs[1]?:=hf 1 _ rfl
 have g2:DataW.trod enc pQ W 0 (fun _=>true) true n' 77 ((cs.drop 2).take (Tryz.prog.cellsOf 77))=xs[2]?:=hf 2 _ rfl
 rw[kb,gh 0 (by omega),List.getElem?_eq_getElem (by omega)] at g0
 rw[kb,gh 1 (by omega),List.getElem?_eq_getElem (by omega)] at g1
 rw[cells_ent,List.getElem?_eq_getElem (by omega)] at g2
 obtain ⟨t,e0,_,_⟩:=DataW.trod_int Tryz.underlying3 g0
 obtain ⟨i,e1,_,_⟩:=DataW.trod_int Tryz.underlying3 g1
 obtain ⟨v,l,r,f,e2⟩:=ent_cells g2
 simp only[List.cons.injEq,and_true] at e0 e1
 refine ⟨⟨t,i,v,l,r,f⟩,?_⟩
 match cs,hl with
 | [c0,c1,c2,c3,c4,c5],_ =>
  simp only[List.getElem_cons_zero,List.getElem_cons_succ] at e0 e1
  simp only[List.drop_succ_cons,List.drop_zero,List.take_succ_cons,List.take_zero] at e2
  rw[e0,e1,e2]
theorem wo_cells {H:Type} {enc:TypeId×Value→H} {W:World} {n:Nat} {cs:List Value} {y:DataW H×List MemPlace} (h:DataW.trod enc pQ W 0 (fun _=>true) true n 83 cs=some y) :
  ∃ q:Wo,cs=[U κ q.a,U μ (q.w:Int)]∧q.a≤9223372036854775807∧q.w<4294967296:=by
 obtain ⟨xs,n',_,_,hl,hxl,hf⟩:=DataW.trod_struct Tryz.underlying83 h
 rw[cells_wo] at hl
 have hxl':xs.length=2:=hxl
 have g0:DataW.trod enc pQ W 0 (fun _=>true) true n' 3 ((cs.drop 0).take (Tryz.prog.cellsOf 3))=xs[0]?:=hf 0 _ rfl
 have g1:DataW.trod enc pQ W 0 (fun _=>true) true n' 26 ((cs.drop 1).take (Tryz.prog.cellsOf 26))=xs[1]?:=hf 1 _ rfl
 rw[kb,gh 0 (by omega),List.getElem?_eq_getElem (by omega)] at g0
 rw[p9,gh 1 (by omega),List.getElem?_eq_getElem (by omega)] at g1
 obtain ⟨a,e0,_,wa⟩:=DataW.trod_int Tryz.underlying3 g0
 obtain ⟨x,e1,_,wx⟩:=DataW.trod_int Tryz.underlying26 g1
 have hb:=bounds_u32 wx
 have ha:=bounds_i64 wa
 obtain ⟨x,rfl⟩:=Int.eq_ofNat_of_zero_le hb.1
 simp only[List.cons.injEq,and_true] at e0 e1
 refine ⟨⟨a,x⟩,?_,ha.2,show x<4294967296 by omega⟩
 match cs,hl with
 | [c0,c1],_ =>
  simp only[List.getElem_cons_zero,List.getElem_cons_succ] at e0 e1
  rw[e0,e1]
theorem pus_of {W:World} {a0:Option Addr} {len:Nat} (h:∀ k,k<len→∃ b o q,a0=some ⟨b,o,none⟩∧PuIs W b (o+k*6) q):∃ P,Pus W a0 len P:=by
 have h':∀ k,∃ q,k<len→∃ b o,a0=some ⟨b,o,none⟩∧PuIs W b (o+k*6) q:=fun k=>by
  by_cases hk:k<len
  ·obtain ⟨b,o,q,e,hq⟩:=h k hk
   exact ⟨q,fun _=>⟨b,o,e,hq⟩⟩
  ·exact ⟨⟨0,0,false,false,0,0⟩,fun hh=>absurd hh hk⟩
 exact ⟨fun k=>Classical.choose (h' k),fun k hk=>Classical.choose_spec (h' k) hk⟩
theorem wos_of {W:World} {a0:Option Addr} {len:Nat} (h:∀ k,k<len→∃ b o q,a0=some ⟨b,o,none⟩∧WoIs W b (o+k*2) q):∃ P,Wos W a0 len P:=by
 have h':∀ k,∃ q,k<len→∃ b o,a0=some ⟨b,o,none⟩∧WoIs W b (o+k*2) q:=fun k=>by
  by_cases hk:k<len
  ·obtain ⟨b,o,q,e,hq⟩:=h k hk
   exact ⟨q,fun _=>⟨b,o,e,hq⟩⟩
  ·exact ⟨⟨0,0⟩,fun hh=>absurd hh hk⟩
 exact ⟨fun k=>Classical.choose (h' k),fun k hk=>Classical.choose_spec (h' k) hk⟩
theorem pus_any {H:Type} {enc:TypeId×Value→H} {W:World} {fuel:Nat} {v:Value} {y:DataW H×List MemPlace} (hf:DataW.trod enc pQ W 0 (fun _=>true) true fuel 22 [v]=some y) :
  ∃ a0 len cap,v=.slice a0 len cap∧len≤9223372036854775807∧∃ P,Pus W a0 len P:=by
 rcases open_slice Tryz.underlying22 hf with ⟨hcs,_⟩ | ⟨a,l,c,m,n,D,Pl,hcs,_,hl,hm,hmm,hx,hel⟩
 ·simp only[List.cons.injEq,and_true] at hcs
  subst hcs
  exact ⟨_,_,_,rfl,by omega,fun _=>⟨0,0,false,false,0,0⟩,fun k hk=>by omega⟩
 ·simp only[List.cons.injEq,and_true] at hcs
  subst hcs
  have hmm':m=c:=by simpa using hmm
  subst hmm'
  refine ⟨_,_,_,rfl,by simp only[maxLen] at hm;omega,pus_of fun k hk=>?_⟩
  rw[cells_pu] at hel
  obtain ⟨b,o,spot⟩:=a
  have hspot:spot=none:=by
   obtain ⟨cs',h1,_⟩:=hel 0 (by omega)
   obtain ⟨_,hlen,hc⟩:=World.cells?_some h1
   have:=hc 0 (by omega)
   rw[List.getElem?_eq_getElem (by omega)] at this
   simpa [Addr.add] using World.cell?_spot this
  subst hspot
  obtain ⟨cs',h1,h2⟩:=hel k (by omega)
  obtain ⟨_,hlen,hc⟩:=World.cells?_some h1
  obtain ⟨q,e⟩:=pu_cells h2
  have hcell:∀ j,j<6→W.cell? ⟨b,o+k*6+j,none⟩=cs'[j]?:=fun j hj=>by have:=hc j hj;rwa [lh,lh] at this
  rw[e] at hcell
  exact ⟨b,o,q,rfl,hcell 0 (by omega),hcell 1 (by omega),hcell 2 (by omega),hcell 3 (by omega),hcell 4 (by omega),hcell 5 (by omega)⟩
theorem wos_any {H:Type} {enc:TypeId×Value→H} {W:World} {fuel:Nat} {v:Value} {y:DataW H×List MemPlace} (hf:DataW.trod enc pQ W 0 (fun _=>true) true fuel 23 [v]=some y) :
  ∃ a0 len cap,v=.slice a0 len cap∧len≤9223372036854775807∧∃ P,Wos W a0 len P:=by
 rcases open_slice Tryz.underlying23 hf with ⟨hcs,_⟩ | ⟨a,l,c,m,n,D,Pl,hcs,_,hl,hm,hmm,hx,hel⟩
 ·simp only[List.cons.injEq,and_true] at hcs
  subst hcs
  exact ⟨_,_,_,rfl,by omega,fun _=>⟨0,0⟩,fun k hk=>by omega⟩
 ·simp only[List.cons.injEq,and_true] at hcs
  subst hcs
  have hmm':m=c:=by simpa using hmm
  subst hmm'
  refine ⟨_,_,_,rfl,by simp only[maxLen] at hm;omega,wos_of fun k hk=>?_⟩
  rw[cells_wo] at hel
  obtain ⟨b,o,spot⟩:=a
  have hspot:spot=none:=by
   obtain ⟨cs',h1,_⟩:=hel 0 (by omega)
   obtain ⟨_,hlen,hc⟩:=World.cells?_some h1
   have:=hc 0 (by omega)
   rw[List.getElem?_eq_getElem (by omega)] at this
   simpa [Addr.add] using World.cell?_spot this
  subst hspot
  obtain ⟨cs',h1,h2⟩:=hel k (by omega)
  obtain ⟨_,hlen,hc⟩:=World.cells?_some h1
  obtain ⟨q,e,hb1,hb2⟩:=wo_cells h2
  have hcell:∀ j,j<2→W.cell? ⟨b,o+k*2+j,none⟩=cs'[j]?:=fun j hj=>by have:=hc j hj;rwa [lh,lh] at this
  rw[e] at hcell
  exact ⟨b,o,q,rfl,hcell 0 (by omega),hcell 1 (by omega),hb1,hb2⟩
theorem world_open {H:Type} {enc:TypeId×Value→H} {W:World} {r:Reach} {b0:Nat} {x:Value} {d:DataW H} {ps:List MemPlace} (hv:Value.okWide pQ W r b0 25 x) (h:DataW.Trod enc pQ W 0 (fun _=>true) true 25 x d ps) :
  ∃ (a0 a1:Option Addr) (len cap len1 cap1:Nat) (g:Bool) (vm se:Int) (P:Nat→Pu) (Q:Nat→Wo),x=.agg #[.slice a0 len cap,.slice a1 len1 cap1,β g,U κ vm,U κ se]∧len≤9223372036854775807∧len1≤9223372036854775807∧Pus W a0 len P∧Wos W a1 len1 Q:=by
 obtain ⟨csa,rfl,_⟩:=okWide_struct Tryz.underlying25 hv
 obtain ⟨fuel,hf0⟩:=h
 have hf1:DataW.trod enc pQ W 0 (fun _=>true) true fuel 25 csa.toList=some (d,ps):=by simpa [Value.cells] using hf0
 generalize hcs:csa.toList=cs at hf1
 obtain ⟨xs,n',_,_,hl,hxl,hf⟩:=DataW.trod_struct Tryz.underlying25 hf1
 rw[cells_world] at hl
 have hxl':xs.length=5:=hxl
 have g0:DataW.trod enc pQ W 0 (fun _=>true) true n' 22 ((cs.drop 0).take (Tryz.prog.cellsOf 22))=xs[0]?:=hf 0 _ rfl
 have g1:DataW.trod enc pQ W 0 (fun _=>true) true n' 23 ((cs.drop 1).take (Tryz.prog.cellsOf 23))=xs[1]?:=hf 1 _ rfl
 have g2:DataW.trod enc pQ W 0 (fun _=>true) true n' 4 ((cs.drop 2).take (Tryz.prog.cellsOf 4))=xs[2]?:=hf 2 _ rfl
 have g3:DataW.trod enc pQ W 0 (fun _=>true) true n' 3 ((cs.drop 3).take (Tryz.prog.cellsOf 3))=xs[3]?:=hf 3 _ rfl
 have g4:DataW.trod enc pQ W 0 (fun _=>true) true n' 3 ((cs.drop 4).take (Tryz.prog.cellsOf 3))=xs[4]?:=hf 4 _ rfl
 rw[cells_pus,gh 0 (by omega),List.getElem?_eq_getElem (by omega)] at g0
 rw[cells_wos,gh 1 (by omega),List.getElem?_eq_getElem (by omega)] at g1
 rw[qz,gh 2 (by omega),List.getElem?_eq_getElem (by omega)] at g2
 rw[kb,gh 3 (by omega),List.getElem?_eq_getElem (by omega)] at g3
 rw[kb,gh 4 (by omega),List.getElem?_eq_getElem (by omega)] at g4
 obtain ⟨a0,len,cap,e0,hl0,P,hP⟩:=pus_any g0
 obtain ⟨a1,len1,cap1,e1,hl1,Q,hQ⟩:=wos_any g1
 obtain ⟨g,e2,_⟩:=DataW.trod_bool Tryz.underlying4 g2
 obtain ⟨vm,e3,_,_⟩:=DataW.trod_int Tryz.underlying3 g3
 obtain ⟨se,e4,_,_⟩:=DataW.trod_int Tryz.underlying3 g4
 simp only[List.cons.injEq,and_true] at e2 e3 e4
 refine ⟨a0,a1,len,cap,len1,cap1,g,vm,se,P,Q,?_,hl0,hl1,hP,hQ⟩
 have e':cs=[.slice a0 len cap,.slice a1 len1 cap1,β g,U κ vm,U κ se]:=by
  match cs,hl with
  | [c0,c1,c2,c3,c4],_ =>
   simp only[List.getElem_cons_zero,List.getElem_cons_succ] at e0 e1 e2 e3 e4
   rw[e0,e1,e2,e3,e4]
 rw[show csa=csa.toList.toArray by simp,hcs,e']
theorem words_of {cs:List Value} {n:Nat} (h:∀ k,k<n→∃ q:Int,cs[k]? = some (U μ q)∧0≤q∧q≤4294967295):∃ g:Nat→Nat,(∀ k,g k<4294967296)∧∀ k,k<n→cs[k]? = some (U μ ((g k:Nat):Int)):=by
 have h':∀ k,∃ m:Nat,m<4294967296∧(k<n→cs[k]? = some (U μ (m:Int))):=fun k=>by
  by_cases hk:k<n
  ·obtain ⟨q,e,h0,h1⟩:=h k hk
   exact ⟨q.toNat,by omega,fun _=>by rw[e,Int.toNat_of_nonneg h0]⟩
  ·exact ⟨0,by decide,fun hh=>absurd hh hk⟩
 exact ⟨fun k=>Classical.choose (h' k),fun k=>(Classical.choose_spec (h' k)).1,fun k hk=>(Classical.choose_spec (h' k)).2 hk⟩
theorem cpu_open {H:Type} {enc:TypeId×Value→H} {W:World} {r:Reach} {b0:Nat} {x:Value} {d:DataW H} {ps:List MemPlace} (hv:Value.okWide pQ W r b0 30 x) (h:DataW.Trod enc pQ W 0 (fun _=>true) true 30 x d ps) :
  ∃ c:Cp,x=.agg (cpA c)∧c.Ok:=by
 obtain ⟨csa,rfl,_⟩:=okWide_struct Tryz.underlying30 hv
 obtain ⟨fuel,hf0⟩:=h
 have hf1:DataW.trod enc pQ W 0 (fun _=>true) true fuel 30 csa.toList=some (d,ps):=by simpa [Value.cells] using hf0
 generalize hcs:csa.toList=cs at hf1
 obtain ⟨xs,n',_,_,hl,hxl,hf⟩:=DataW.trod_struct Tryz.underlying30 hf1
 rw[cells_cpu] at hl
 have hxl':xs.length=3:=hxl
 have g0:DataW.trod enc pQ W 0 (fun _=>true) true n' 27 ((cs.drop 0).take (Tryz.prog.cellsOf 27))=xs[0]?:=hf 0 _ rfl
 have g1:DataW.trod enc pQ W 0 (fun _=>true) true n' 3 ((cs.drop 16).take (Tryz.prog.cellsOf 3))=xs[1]?:=hf 1 _ rfl
 have g2:DataW.trod enc pQ W 0 (fun _=>true) true n' 28 ((cs.drop 17).take (Tryz.prog.cellsOf 28))=xs[2]?:=hf 2 _ rfl
 rw[cells_a16,List.getElem?_eq_getElem (by omega)] at g0
 rw[kb,gh 16 (by omega),List.getElem?_eq_getElem (by omega)] at g1
 rw[cells_a8,List.getElem?_eq_getElem (by omega)] at g2
 obtain ⟨pc,e1,_,_⟩:=DataW.trod_int Tryz.underlying3 g1
 obtain ⟨ys,m,_,_,hl0,hy0,hel⟩:=DataW.trod_array Tryz.underlying27 g0
 obtain ⟨zs,m',_,_,hl2,hz0,hel2⟩:=DataW.trod_array Tryz.underlying28 g2
 obtain ⟨R,hR,eR⟩:=words_of (cs:=cs) (n:=16) (fun k hk=>by
  have e:=hel k hk
  rw[p9,Nat.mul_one,List.drop_zero,gh k (by simp;omega)] at e
  rw[List.getElem?_eq_getElem (by omega)] at e
  obtain ⟨q,e1,_,wq⟩:=DataW.trod_int Tryz.underlying26 e
  simp only[List.cons.injEq,and_true,List.getElem_take] at e1
  have hb:=bounds_u32 wq
  exact ⟨q,by rw[List.getElem?_eq_getElem (by omega),e1],by omega,by omega⟩)
 obtain ⟨S,hS,eS⟩:=words_of (cs:=cs.drop 17) (n:=8) (fun k hk=>by
  have e:=hel2 k hk
  rw[p9,Nat.mul_one,gh k (by simp;omega),List.getElem?_eq_getElem (by omega)] at e
  obtain ⟨q,e1,_,wq⟩:=DataW.trod_int Tryz.underlying26 e
  simp only[List.cons.injEq,and_true,List.getElem_take] at e1
  have hb:=bounds_u32 wq
  exact ⟨q,by rw[List.getElem?_eq_getElem (by simp;omega),e1],by omega,by omega⟩)
 simp only[List.cons.injEq,and_true] at e1
 refine ⟨⟨R,pc,S⟩,?_,⟨hR,hS⟩⟩
 have e':cs=cpL ⟨R,pc,S⟩:=by
  refine cpL_ext hl eR ?_ ?_
  ·rw[List.getElem?_eq_getElem (by omega),e1]
  ·intro k hk
   have:=eS k hk
   rw[List.getElem?_drop] at this
   exact this
 rw[show csa=csa.toList.toArray by simp,hcs,e']
 rfl
end
section
open Go.ChangeShapes Go.WideShapes Go.ChangeAt Go.RowKit Go.Deep
theorem cells_act:Tryz.prog.cellsOf 48=4:=by kernel_rfl
structure ActIs (w:World) (b o:Nat) (d n x:Int) (on:Bool):Prop where
 c0:w.cell? ⟨b,o,none⟩=some (U κ d)
 c1:w.cell? ⟨b,o+1,none⟩=some (U κ n)
 c2:w.cell? ⟨b,o+2,none⟩=some (U κ x)
 c3:w.cell? ⟨b,o+3,none⟩=some (β on)
def Acts (w:World) (a0:Option Addr) (len:Nat):Prop:=
 ∀ k,k<len→∃ b o d n x on,a0=some ⟨b,o,none⟩∧ActIs w b (o+k*4) d n x on
theorem ActIs.keep {S:Nat→Prop} {w w':World} {b o:Nat} {d n x:Int} {on:Bool} (h:ActIs w b o d n x on) (k:Fr S w w') (hs:¬ S b):ActIs w' b o d n x on:=
 ⟨cd k h.c0 hs,cd k h.c1 hs,cd k h.c2 hs,cd k h.c3 hs⟩
theorem act_open {H:Type} {enc:TypeId×Value→H} {W:World} {n:Nat} {cs:List Value} {y:DataW H×List MemPlace} (b o:Nat) (hcell:∀ j,j<4→W.cell? ⟨b,o+j,none⟩=cs[j]?) (hl:cs.length=4)
  (h:DataW.trod enc pQ W 0 (fun _=>true) true n 48 cs=some y) :
  ∃ d n x on,ActIs W b o d n x on:=by
 obtain ⟨xs,n',_,_,_,hxl,hf⟩:=DataW.trod_struct Tryz.underlying48 h
 have hxl':xs.length=4:=hxl
 have g0:DataW.trod enc pQ W 0 (fun _=>true) true n' 3 ((cs.drop 0).take (Tryz.prog.cellsOf 3))=xs[0]?:=hf 0 _ rfl
 have g1:DataW.trod enc pQ W 0 (fun _=>true) true n' 3 ((cs.drop 1).take (Tryz.prog.cellsOf 3))=xs[1]?:=hf 1 _ rfl
 have g2:DataW.trod enc pQ W 0 (fun _=>true) true n' 3 ((cs.drop 2).take (Tryz.prog.cellsOf 3))=xs[2]?:=hf 2 _ rfl
 have g3:DataW.trod enc pQ W 0 (fun _=>true) true n' 4 ((cs.drop 3).take (Tryz.prog.cellsOf 4))=xs[3]?:=hf 3 _ rfl
 rw[kb,gh 0 (by omega),List.getElem?_eq_getElem (by omega)] at g0
 rw[kb,gh 1 (by omega),List.getElem?_eq_getElem (by omega)] at g1
 rw[kb,gh 2 (by omega),List.getElem?_eq_getElem (by omega)] at g2
 rw[qz,gh 3 (by omega),List.getElem?_eq_getElem (by omega)] at g3
 obtain ⟨d,e0,_,_⟩:=DataW.trod_int Tryz.underlying3 g0
 obtain ⟨n,e1,_,_⟩:=DataW.trod_int Tryz.underlying3 g1
 obtain ⟨x,e2,_,_⟩:=DataW.trod_int Tryz.underlying3 g2
 obtain ⟨on,e3,_⟩:=DataW.trod_bool Tryz.underlying4 g3
 simp only[List.cons.injEq,and_true] at e0 e1 e2 e3
 refine ⟨d,n,x,on,?_,?_,?_,?_⟩
 ·have:=hcell 0 (by omega);rw[List.getElem?_eq_getElem (by omega),e0] at this;exact this
 ·have:=hcell 1 (by omega);rw[List.getElem?_eq_getElem (by omega),e1] at this;exact this
 ·have:=hcell 2 (by omega);rw[List.getElem?_eq_getElem (by omega),e2] at this;exact this
 ·have:=hcell 3 (by omega);rw[List.getElem?_eq_getElem (by omega),e3] at this;exact this
theorem acts_open {H:Type} {enc:TypeId×Value→H} {W:World} {fuel:Nat} {a0:Option Addr} {len cap:Nat} {y:DataW H×List MemPlace} (hf:DataW.trod enc pQ W 0 (fun _=>true) true fuel 31 [.slice a0 len cap]=some y) :
  len≤9223372036854775807∧Acts W a0 len:=by
 rcases open_slice Tryz.underlying31 hf with ⟨hcs,_⟩ | ⟨a,l,c,m,n,D,Pl,hcs,_,hl,hm,hmm,hx,hel⟩
 ·simp only[List.cons.injEq,Value.slice.injEq,and_true] at hcs
  obtain ⟨rfl,rfl,rfl⟩:=hcs
  exact ⟨by omega,fun k hk=>by omega⟩
 ·simp only[List.cons.injEq,Value.slice.injEq,and_true] at hcs
  obtain ⟨rfl,rfl,rfl⟩:=hcs
  have hmm':m=cap:=by simpa using hmm
  subst hmm'
  refine ⟨by simp only[maxLen] at hm;omega,fun k hk=>?_⟩
  rw[cells_act] at hel
  obtain ⟨b,o,spot⟩:=a
  have hspot:spot=none:=by
   obtain ⟨cs',h1,_⟩:=hel 0 (by omega)
   obtain ⟨_,hlen,hc⟩:=World.cells?_some h1
   have:=hc 0 (by omega)
   rw[List.getElem?_eq_getElem (by omega)] at this
   simpa [Addr.add] using World.cell?_spot this
  subst hspot
  obtain ⟨cs',h1,h2⟩:=hel k (by omega)
  obtain ⟨_,hlen,hc⟩:=World.cells?_some h1
  obtain ⟨d,n1,x,on,h3⟩:=act_open b (o+k*4) (fun j hj=>by
   have:=hc j hj
   rwa [lh,lh] at this) hlen h2
  exact ⟨b,o,d,n1,x,on,rfl,h3⟩
end
end Go.Proofs.YtibhbjbpodlpiaaGreat
