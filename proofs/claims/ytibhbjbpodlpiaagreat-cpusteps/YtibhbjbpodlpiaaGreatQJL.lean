/-
  Contracts over the translation. No statement is proved here.
-/
import Derived.Deep.MidRow
import Derived.Deep.RegionHeld3
import Derived.Deep.QuietTactic
import Derived.BigQuiet
import Derived.Shelf.Abstract
import Derived.Test.YtibhbjbpodlpiaaGreatQJC
import Derived.Test.YtibhbjbpodlpiaaGreatQJF
import Derived.Test.YtibhbjbpodlpiaaGreatQJG
import Derived.Test.YtibhbjbpodlpiaaGreatQJH
set_option maxRecDepth 100000
set_option maxHeartbeats 8000000
namespace Go.Proofs.YtibhbjbpodlpiaaGreat
open Go.RowKit
open Go.Value renaming int → U, bool → β, pointer → π, tuple → τ
open Go.IntKind renaming i64 → κ, u32 → μ
open Go.Obj renaming cells → ω
open Go.Ending renaming returned → ρ
open Go.Proofs.Tryz renaming prog → pQ
section
open Go.RowKit
structure Cp where
 r:Nat→Nat
 pc:Int
 s:Nat→Nat
def Cp.setR (c:Cp) (k v:Nat):Cp:={ c with r:=fun i=>if i=k then v else c.r i }
def Cp.setS (c:Cp) (k v:Nat):Cp:={ c with s:=fun i=>if i=k then v else c.s i }
def Cp.setP (c:Cp) (x:Int):Cp:={ c with pc:=x }
structure Cp.Ok (c:Cp):Prop where
 r:∀ i,c.r i<4294967296
 s:∀ i,c.s i<4294967296
theorem Cp.Ok.setR {c:Cp} (h:c.Ok) (k:Nat) {v:Nat} (hv:v<4294967296):(c.setR k v).Ok:=⟨fun i=>by unfold Cp.setR;dsimp only;split;exact hv;exact h.r i,h.s⟩
theorem Cp.Ok.setS {c:Cp} (h:c.Ok) (k:Nat) {v:Nat} (hv:v<4294967296):(c.setS k v).Ok:=⟨h.r,fun i=>by unfold Cp.setS;dsimp only;split;exact hv;exact h.s i⟩
theorem Cp.Ok.setP {c:Cp} (h:c.Ok) (x:Int):(c.setP x).Ok:=⟨h.r,h.s⟩
structure Tr where (ca nu ad:Int) (f:Ft)
def t0:Tr:=⟨0,0,0,f0⟩
def trL (t:Tr):Array Value:=#[U κ t.ca,U κ t.nu,U κ t.ad,U κ t.f.k,U κ t.f.s,U κ t.f.l,β t.f.wk,U κ t.f.p]
def cpL (c:Cp):List Value:=(List.range 16).map (fun i=>Value.int .u32 ((c.r i:Nat):Int)) ++ U κ c.pc :: (List.range 8).map (fun i=>Value.int .u32 ((c.s i:Nat):Int))
theorem p8 (c:Cp):(cpL c).length=25:=by simp[cpL]
theorem cpL_r (c:Cp) {i:Nat} (h:i<16):(cpL c)[i]? = some (U μ ((c.r i:Nat):Int)):=by
 unfold cpL
 rw[List.getElem?_append_left (by simpa using h)]
 simp[List.getElem?_range h]
theorem vq (c:Cp):(cpL c)[16]? = some (U κ c.pc):=by simp[cpL]
theorem yo (c:Cp) {i:Nat} (h:i<8):(cpL c)[17+i]? = some (U μ ((c.s i:Nat):Int)):=by
 unfold cpL
 rw[List.getElem?_append_right (by simp;omega)]
 simp only[List.length_map,List.length_range]
 rw[show 17+i-16=i+1 by omega,List.getElem?_cons_succ]
 simp[List.getElem?_range h]
theorem cpL_ext {c:Cp} {l:List Value} (hl:l.length=25) (h1:∀ i,i<16→l[i]? = some (U μ ((c.r i:Nat):Int))) (h2:l[16]? = some (U κ c.pc)) (h3:∀ i,i<8→l[17+i]? = some (U μ ((c.s i:Nat):Int))):l=cpL c:=by
 apply List.ext_getElem?
 intro i
 by_cases a:i<16
 ·rw[h1 i a,cpL_r c a]
 ·by_cases b:i=16
  ·subst b;rw[h2,vq]
  ·by_cases d:i<25
   ·obtain ⟨j,rfl⟩:∃ j,i=17+j:=⟨i-17,by omega⟩
    rw[h3 j (by omega),yo c (by omega)]
   ·rw[List.getElem?_eq_none (by omega),List.getElem?_eq_none (by rw[p8];omega)]
theorem cpL_one (c:Cp):∀ v ∈ cpL c,v.oneCell'=true:=by
 intro v hv
 unfold cpL at hv
 simp only[List.mem_append,List.mem_map,List.mem_cons] at hv
 rcases hv with ⟨i,_,rfl⟩ | rfl | ⟨i,_,rfl⟩ <;> simp[Value.oneCell']
def gu:Option Nat→Value
 | some b=>π (some ⟨b,0,none⟩)
 | none=>π none
structure Wk where
 p:Nat
 t:Nat
 v:Option Nat
 vm:Int
 sd:Int
 fi:Int
 se:Int
 ix:Int
 pc:Int
 wd:Nat
 op:Nat
 a:Nat
 b:Nat
 c:Nat
 imm:Nat
 z:Cp
structure Sw (cs:Array Value) (X:Wk):Prop where
 size:cs.size=40
 c0:cs[0]? = some (π (some ⟨X.p,0,none⟩))
 c1:cs[1]? = some (π (some ⟨X.t,0,none⟩))
 c2:cs[2]? = some (gu X.v)
 c3:cs[3]? = some (U κ X.vm)
 c4:cs[4]? = some (U κ X.sd)
 c5:cs[5]? = some (U κ X.fi)
 c6:cs[6]? = some (U κ X.se)
 c7:cs[7]? = some (U κ X.ix)
 c8:cs[8]? = some (U κ X.pc)
 c9:cs[9]? = some (U μ ((X.wd:Nat):Int))
 c10:cs[10]? = some (U κ ((X.op:Nat):Int))
 c11:cs[11]? = some (U κ ((X.a:Nat):Int))
 c12:cs[12]? = some (U κ ((X.b:Nat):Int))
 c13:cs[13]? = some (U κ ((X.c:Nat):Int))
 c14:cs[14]? = some (U κ ((X.imm:Nat):Int))
 cr:∀ i,i<16→cs[15+i]? = some (U μ ((X.z.r i:Nat):Int))
 cp:cs[31]? = some (U κ X.z.pc)
 cz:∀ i,i<8→cs[32+i]? = some (U μ ((X.z.s i:Nat):Int))
def IsW (w:World) (bx:Nat) (X:Wk):Prop:=∃ cs,Row w bx cs 150∧Sw cs X
section
variable {w w':World} {bx:Nat} {X:Wk}
theorem IsW.keep {S:Nat→Prop} (h:IsW w bx X) (f:Fr S w w') (hs:¬ S bx):IsW w' bx X:=by obtain ⟨cs,hr,hc⟩:=h;exact ⟨cs,hr.keep f hs,hc⟩
theorem IsW.keep0 (h:IsW w bx X) (f:Fr bg w w'):IsW w' bx X:=h.keep f (fun h=>h)
theorem IsW.alloc (h:IsW w bx X) (o:Obj):IsW (w.alloc o) bx X:=h.keep0 ((Fr.refl bg w).alloc o)
theorem IsW.lt (h:IsW w bx X):bx<w.heap.size:=by obtain ⟨cs,hr,_⟩:=h;exact hr.lt
theorem IsW.frozen (h:IsW w bx X) (i:Nat):w.frozen? ⟨bx,i,none⟩=false:=by obtain ⟨cs,hr,_⟩:=h;exact hr.frozen i
theorem IsW.drew (h:IsW w bx X):IsW w.drew bx X:=h.keep0 (Fr.refl bg w).drew
theorem IsW.drewN (h:IsW w bx X) (n:Nat):IsW (w.drewN n) bx X:=h.keep0 (bo w n)
theorem IsW.reg (h:IsW w bx X) {i:Nat} (hi:i<16):w.cell? ⟨bx,15+i,none⟩=some (U μ ((X.z.r i:Nat):Int)):=by obtain ⟨cs,hr,hc⟩:=h;exact(hr.cell _).trans (hc.cr i hi)
theorem IsW.sys (h:IsW w bx X) {i:Nat} (hi:i<8):w.cell? ⟨bx,32+i,none⟩=some (U μ ((X.z.s i:Nat):Int)):=by obtain ⟨cs,hr,hc⟩:=h;exact(hr.cell _).trans (hc.cz i hi)
theorem IsW.k0 (h:IsW w bx X):w.cell? ⟨bx,0,none⟩=some (π (some ⟨X.p,0,none⟩)):=by obtain ⟨cs,hr,hc⟩:=h;exact(hr.cell _).trans hc.c0
theorem IsW.k1 (h:IsW w bx X):w.cell? ⟨bx,1,none⟩=some (π (some ⟨X.t,0,none⟩)):=by obtain ⟨cs,hr,hc⟩:=h;exact(hr.cell _).trans hc.c1
theorem IsW.k2 (h:IsW w bx X):w.cell? ⟨bx,2,none⟩=some (gu X.v):=by obtain ⟨cs,hr,hc⟩:=h;exact(hr.cell _).trans hc.c2
theorem IsW.k3 (h:IsW w bx X):w.cell? ⟨bx,3,none⟩=some (U κ X.vm):=by obtain ⟨cs,hr,hc⟩:=h;exact(hr.cell _).trans hc.c3
theorem IsW.k4 (h:IsW w bx X):w.cell? ⟨bx,4,none⟩=some (U κ X.sd):=by obtain ⟨cs,hr,hc⟩:=h;exact(hr.cell _).trans hc.c4
theorem IsW.k5 (h:IsW w bx X):w.cell? ⟨bx,5,none⟩=some (U κ X.fi):=by obtain ⟨cs,hr,hc⟩:=h;exact(hr.cell _).trans hc.c5
theorem IsW.k6 (h:IsW w bx X):w.cell? ⟨bx,6,none⟩=some (U κ X.se):=by obtain ⟨cs,hr,hc⟩:=h;exact(hr.cell _).trans hc.c6
theorem IsW.k7 (h:IsW w bx X):w.cell? ⟨bx,7,none⟩=some (U κ X.ix):=by obtain ⟨cs,hr,hc⟩:=h;exact(hr.cell _).trans hc.c7
theorem IsW.k8 (h:IsW w bx X):w.cell? ⟨bx,8,none⟩=some (U κ X.pc):=by obtain ⟨cs,hr,hc⟩:=h;exact(hr.cell _).trans hc.c8
theorem IsW.k9 (h:IsW w bx X):w.cell? ⟨bx,9,none⟩=some (U μ ((X.wd:Nat):Int)):=by obtain ⟨cs,hr,hc⟩:=h;exact(hr.cell _).trans hc.c9
theorem IsW.k11 (h:IsW w bx X):w.cell? ⟨bx,11,none⟩=some (U κ ((X.a:Nat):Int)):=by obtain ⟨cs,hr,hc⟩:=h;exact(hr.cell _).trans hc.c11
theorem IsW.k12 (h:IsW w bx X):w.cell? ⟨bx,12,none⟩=some (U κ ((X.b:Nat):Int)):=by obtain ⟨cs,hr,hc⟩:=h;exact(hr.cell _).trans hc.c12
theorem IsW.k13 (h:IsW w bx X):w.cell? ⟨bx,13,none⟩=some (U κ ((X.c:Nat):Int)):=by obtain ⟨cs,hr,hc⟩:=h;exact(hr.cell _).trans hc.c13
theorem IsW.k14 (h:IsW w bx X):w.cell? ⟨bx,14,none⟩=some (U κ ((X.imm:Nat):Int)):=by obtain ⟨cs,hr,hc⟩:=h;exact(hr.cell _).trans hc.c14
theorem IsW.some_cell (h:IsW w bx X) {i:Nat} (hi:i<40):∃ v,w.cell? ⟨bx,i,none⟩=some v:=by
 obtain ⟨cs,hr,hc⟩:=h
 exact ⟨_,(hr.cell i).trans (Array.getElem?_eq_getElem (by rw[hc.size];exact hi))⟩
theorem IsW.set (h:IsW w bx X) {i:Nat} {v:Value} {X':Wk} (hc:∀ cs,Sw cs X→Sw (cs.setIfInBounds i v) X'):IsW (w.setCell ⟨bx,i,none⟩ v) bx X':=by
 obtain ⟨cs,hr,hs⟩:=h;exact ⟨_,hr.setCell i v,hc cs hs⟩
theorem Sw.other {cs:Array Value} (_h:Sw cs X) {i j:Nat} {v u:Value} (hij:i≠j) (e:cs[j]? = some u):(cs.setIfInBounds i v)[j]? = some u:=by
 rw[Array.getElem?_setIfInBounds,if_neg hij];exact e
theorem Sw.low {cs:Array Value} (h:Sw cs X) {i:Nat} {v:Value} {z:Cp} (hi:15≤i)
  (hr:∀ j,j<16→(cs.setIfInBounds i v)[15+j]? = some (U μ ((z.r j:Nat):Int))) (hp:(cs.setIfInBounds i v)[31]? = some (U κ z.pc)) (hz:∀ j,j<8→(cs.setIfInBounds i v)[32+j]? = some (U μ ((z.s j:Nat):Int))):Sw (cs.setIfInBounds i v) { X with z:=z }:=
 ⟨by simpa using h.size,h.other (by omega) h.c0,h.other (by omega) h.c1,h.other (by omega) h.c2,h.other (by omega) h.c3,h.other (by omega) h.c4,h.other (by omega) h.c5,h.other (by omega) h.c6,h.other (by omega) h.c7,h.other (by omega) h.c8,h.other (by omega) h.c9,h.other (by omega) h.c10,h.other (by omega) h.c11,h.other (by omega) h.c12,h.other (by omega) h.c13,h.other (by omega) h.c14,hr,hp,hz⟩
theorem Sw.here {cs:Array Value} (h:Sw cs X) {i:Nat} (v:Value) (hi:i<40):(cs.setIfInBounds i v)[i]? = some v:=by
 rw[Array.getElem?_setIfInBounds,if_pos rfl,if_pos (by rw[h.size];exact hi)]
theorem IsW.setR (h:IsW w bx X) {k v:Nat} (hk:k<16):IsW (w.setCell ⟨bx,15+k,none⟩ (U μ (v:Int))) bx { X with z:=X.z.setR k v }:=
 h.set fun cs hs=>hs.low (by omega) (fun j hj=>by
  by_cases e:j=k
  ·subst e;rw[hs.here _ (by omega)];simp[Cp.setR]
  ·rw[hs.other (by omega) (hs.cr j hj)];simp[Cp.setR,e]) (hs.other (by omega) hs.cp) (fun j hj=>hs.other (by omega) (hs.cz j hj))
theorem IsW.setS (h:IsW w bx X) {k v:Nat} (hk:k<8):IsW (w.setCell ⟨bx,32+k,none⟩ (U μ (v:Int))) bx { X with z:=X.z.setS k v }:=
 h.set fun cs hs=>hs.low (by omega) (fun j hj=>hs.other (by omega) (hs.cr j hj)) (hs.other (by omega) hs.cp) (fun j hj=>by
  by_cases e:j=k
  ·subst e;rw[hs.here _ (by omega)];simp[Cp.setS]
  ·rw[hs.other (by omega) (hs.cz j hj)];simp[Cp.setS,e])
theorem IsW.setP (h:IsW w bx X) (x:Int):IsW (w.setCell ⟨bx,31,none⟩ (U κ x)) bx { X with z:=X.z.setP x }:=
 h.set fun cs hs=>hs.low (by omega) (fun j hj=>hs.other (by omega) (hs.cr j hj)) (hs.here _ (by omega)) (fun j hj=>hs.other (by omega) (hs.cz j hj))
theorem IsW.setWd (h:IsW w bx X) (x:Nat):IsW (w.setCell ⟨bx,9,none⟩ (U μ (x:Int))) bx { X with wd:=x }:=
 h.set fun cs hs=>⟨by simpa using hs.size,hs.other (by omega) hs.c0,hs.other (by omega) hs.c1,hs.other (by omega) hs.c2,hs.other (by omega) hs.c3,hs.other (by omega) hs.c4,hs.other (by omega) hs.c5,hs.other (by omega) hs.c6,hs.other (by omega) hs.c7,hs.other (by omega) hs.c8,hs.here _ (by omega),hs.other (by omega) hs.c10,hs.other (by omega) hs.c11,hs.other (by omega) hs.c12,hs.other (by omega) hs.c13,hs.other (by omega) hs.c14,fun j hj=>hs.other (by omega) (hs.cr j hj),hs.other (by omega) hs.cp,fun j hj=>hs.other (by omega) (hs.cz j hj)⟩
theorem IsW.setI (h:IsW w bx X) (o a b c i:Nat):IsW (((((w.setCell ⟨bx,10,none⟩ (U κ (o:Int))).setCell ⟨bx,11,none⟩ (U κ (a:Int))).setCell ⟨bx,12,none⟩ (U κ (b:Int))).setCell ⟨bx,13,none⟩ (U κ (c:Int))).setCell ⟨bx,14,none⟩ (U κ (i:Int))) bx { X with op:=o,a:=a,b:=b,c:=c,imm:=i }:=by
 obtain ⟨cs,hr,hs⟩:=h
 refine ⟨_,((((hr.setCell 10 _).setCell 11 _).setCell 12 _).setCell 13 _).setCell 14 _,?_⟩
 have sz:=hs.size
 have q:∀ j,¬ (10≤j∧j≤14)→(((((cs.setIfInBounds 10 (U κ (o:Int))).setIfInBounds 11 (U κ (a:Int))).setIfInBounds 12 (U κ (b:Int))).setIfInBounds 13 (U κ (c:Int))).setIfInBounds 14 (U κ (i:Int)))[j]? = cs[j]?:=fun j hj=>by
  simp (disch:=omega) only[Array.getElem?_setIfInBounds,if_neg]
 refine ⟨by simpa using sz,(q _ (by omega)).trans hs.c0,(q _ (by omega)).trans hs.c1,(q _ (by omega)).trans hs.c2,(q _ (by omega)).trans hs.c3,(q _ (by omega)).trans hs.c4,(q _ (by omega)).trans hs.c5,(q _ (by omega)).trans hs.c6,(q _ (by omega)).trans hs.c7,(q _ (by omega)).trans hs.c8,(q _ (by omega)).trans hs.c9,?_,?_,?_,?_,?_,fun j hj=>(q _ (by omega)).trans (hs.cr j hj),(q _ (by omega)).trans hs.cp,fun j hj=>(q _ (by omega)).trans (hs.cz j hj)⟩
 all_goals simp[sz]
end
theorem IsW.range {w:World} {bx:Nat} {X:Wk} (h:IsW w bx X):w.rangeAt bx 15 (cpL X.z):=fun j v hv=>by
 have hj:j<25:=by rw[←p8 X.z];exact(List.getElem?_eq_some_iff.1 hv).1
 by_cases a:j<16
 ·rw[cpL_r _ a] at hv;rw[h.reg a];exact hv
 ·by_cases b:j=16
  ·subst b;rw[vq] at hv;obtain ⟨cs,hr,hc⟩:=h;rw[hr.cell];rw[←hv];exact hc.cp
  ·obtain ⟨k,rfl⟩:∃ k,j=17+k:=⟨j-17,by omega⟩
   rw[yo _ (show k<8 by omega)] at hv
   rw[show 15+(17+k)=32+k by omega,h.sys (show k<8 by omega)];exact hv
structure Mc where
 bs:List UInt8
 T:Nat→Ln
 fo:Int
 mi:Int
 V:Option Vg
structure Bm where
 p:Nat
 bf:Nat
 bt:Nat
 v:Option Bk
def Bm.g (B:Bm):Nat→Prop:=fun k=>match B.v with
 | some b=>b.s k
 | none=>False
def Bm.s (B:Bm):Nat→Prop:=fun k=>k=B.bf∨k=B.bt∨B.g k
def IsV (w:World):Option Bk→Option Vg→Prop
 | some b,some S=>IsVg w b S
 | none,none=>True
 | _,_=>False
structure IsMc (w:World) (B:Bm) (nf:Nat) (M:Mc):Prop where
 ram:IsRam w B.p B.bf nf M.bs
 tlb:jj w B.bt M.T M.fo M.mi
 vg:IsV w B.v M.V
 d1:B.p≠B.bt
 d2:B.bf≠B.bt
 d3:B.p≠B.bf
 e1:¬ B.g B.p
 e2:¬ B.g B.bf
 e3:¬ B.g B.bt
theorem IsV.keep {w w':World} {b:Option Bk} {V:Option Vg} (h:IsV w b V) {S:Nat→Prop} (f:Fr S w w') (hs:∀ B,b=some B→∀ k,B.s k→¬ S k):IsV w' b V:=by
 cases b with
 | none=>cases V with
  | none=>trivial
  | some S=>exact h.elim
 | some B=>cases V with
  | none=>exact h.elim
  | some S=>exact IsVg.keep h f (hs B rfl)
theorem IsMc.keep {w w':World} {B:Bm} {nf:Nat} {M:Mc} (h:IsMc w B nf M) {S:Nat→Prop} (f:Fr S w w') (h1:¬ S B.p) (h2:¬ S B.bf) (h3:¬ S B.bt) (h4:∀ k,B.g k→¬ S k):IsMc w' B nf M:=
 ⟨h.ram.keep f h1 h2,h.tlb.keep f h3,h.vg.keep f (fun b hb k hk=>h4 k (by simp only[Bm.g,hb];exact hk)),h.d1,h.d2,h.d3,h.e1,h.e2,h.e3⟩
theorem IsMc.keep0 {w w':World} {B:Bm} {nf:Nat} {M:Mc} (h:IsMc w B nf M) (f:Fr bg w w'):IsMc w' B nf M:=h.keep f (fun h=>h) (fun h=>h) (fun h=>h) (fun _ _ h=>h)
theorem IsMc.ltg {w:World} {B:Bm} {nf:Nat} {M:Mc} (h:IsMc w B nf M) (k:Nat) (hk:B.g k):k<w.heap.size:=by
 have hv:=h.vg
 unfold Bm.g at hk
 cases hb:B.v with
 | none=>simp[hb] at hk
 | some b =>
  simp only[hb] at hk
  rw[hb] at hv
  cases hV:M.V with
  | none=>rw[hV] at hv;exact hv.elim
  | some S=>rw[hV] at hv;exact IsVg.lt hv k hk
theorem IsMc.lts {w:World} {B:Bm} {nf:Nat} {M:Mc} (h:IsMc w B nf M) (k:Nat) (hk:B.s k):k<w.heap.size:=by
 rcases hk with rfl | rfl | hk
 ·exact h.ram.row.lt
 ·exact h.tlb.lt
 ·exact h.ltg k hk
end
theorem and16 (n:Int):bits .and .i64 n 65535=n%65536:=by
 have h16:(BitVec.ofInt 64 65535).toNat=2 ^ 16-1:=by decide
 have key:(BitVec.ofInt 64 n &&& BitVec.ofInt 64 65535).toNat=(n%((2 ^ 64:Nat):Int)).toNat%2 ^ 16:=by
  rw[BitVec.toNat_and,BitVec.toNat_ofInt,h16,Nat.and_two_pow_sub_one_eq_mod]
 show IntKind.i64.wrap ((BitVec.ofInt 64 n &&& BitVec.ofInt 64 65535).toNat:Nat)=n%65536
 rw[key,IntKind.wrap_i64]
 omega
theorem a_any (w:World) (bx:Nat) (X:Wk) (h:IsW w bx X) (ha:X.a<16):Calls pQ 116 #[π (some ⟨bx,0,none⟩)] w fun e w'=>e=ρ (U μ ((X.z.r X.a:Nat):Int))∧∃ m,w'=w.drewN m:=by
 have i1:0≤(X.a:Int)∧(X.a:Int)<16:=by omega
 have c11:=h.k11
 have cr:=h.reg ha
 clear h ha
 go_enter Tryz.func116,Tryz.ntmps116
 go_wp2_with fail
 go_quiet (fail)
 go_wp2_with fail
 go_ret
 exact ⟨rfl,_,rfl⟩
theorem b_any (w:World) (bx:Nat) (X:Wk) (h:IsW w bx X) (ha:X.b<16):Calls pQ 112 #[π (some ⟨bx,0,none⟩)] w fun e w'=>e=ρ (U μ ((X.z.r X.b:Nat):Int))∧∃ m,w'=w.drewN m:=by
 have i1:0≤(X.b:Int)∧(X.b:Int)<16:=by omega
 have c12:=h.k12
 have cr:=h.reg ha
 clear h ha
 go_enter Tryz.func112,Tryz.ntmps112
 go_wp2_with fail
 go_quiet (fail)
 go_wp2_with fail
 go_ret
 exact ⟨rfl,_,rfl⟩
theorem qj (w:World) (bx:Nat) (X:Wk) (v:Nat) (h:IsW w bx X) (ha:X.a<16):Calls pQ 110 #[π (some ⟨bx,0,none⟩),U μ (v:Int)] w fun e w'=>(∃ u,e=.returned u)∧Fr (at' bx) w w'∧IsW w' bx { X with z:=X.z.setR X.a v }:=by
 have i1:0≤(X.a:Int)∧(X.a:Int)<16:=by omega
 have c11:=h.k11
 have cr:=h.reg ha
 have z:=h.frozen (15+X.a)
 have H:Hid (IsW w bx X):=h
 clear h
 go_enter Tryz.func110,Tryz.ntmps110
 go_wp2_with fail
 go_region
 go_wp2_with fail
 refine j9 rfl rfl fun u=>?_
 exact ⟨⟨u,rfl⟩,cy w bx (15+X.a) _ (Fr.refl _ w).drew,H.out.drew.setR ha⟩
theorem behind_any (w:World) (bx:Nat) (X:Wk) (h:IsW w bx X) (hp:0≤X.pc∧X.pc≤65535):Calls pQ 56 #[π (some ⟨bx,0,none⟩)] w fun e w'=>e=ρ (U κ ((X.pc+4)%65536))∧w'=w:=by
 have c8:=h.k8
 clear h
 have e1:=and16 (X.pc+4)
 have e2:IntKind.i64.wrap (X.pc+4)=X.pc+4:=by rw[IntKind.wrap_i64];omega
 go_enter Tryz.func56,Tryz.ntmps56
 go_wp2_with fail
 go_ret
 exact ⟨rfl,rfl⟩
theorem bn:(Tryz.prog.info? 52).map (·.size)=some 8:=by kernel_rfl
theorem gl {fn:Func} {p:Tmp} {tmps:Array Value} {g:Nat} {cs:Array Value} {w:World} (h:fn.results=#[.cell p 52]) (hp:tmps.getD p undef=π (some ⟨g,0,none⟩)) (hr:Row w g cs 52) (hs:cs.size=8) :
  (results fn tmps).run pQ w=.ok (.agg cs) w:=
 results_cell_row h tmps w g _ cs (0,0) _ hp hr Tryz.underlying52 rfl (by rw[hs];exact bn)
theorem mo (w:World) (bx:Nat) (X:Wk) (ca nu:Int) (h:IsW w bx X):Calls pQ 119 #[π (some ⟨bx,0,none⟩),U κ ca,U κ nu] w fun e w'=>e=ρ (.agg #[U κ ca,U κ nu,U κ X.pc,U κ 0,U κ 0,U κ 0,β false,U κ 0])∧Fr bg w w':=by
 have c8:=(h.alloc (ω (trL t0) 52)).k8
 clear h
 unfold trL t0 f0 at c8
 go_enter Tryz.func119,Tryz.ntmps119
 go_wp2_with fail
 refine bodyPost_ret (gl rfl rfl (ba _ _ _) rfl) rfl ?_
 exact ⟨rfl,(Fr.refl _ w).alloc _⟩
theorem jd {w:World} {g:Nat} {c0 c1 c2 c3 c4 c5 c6 c7:Value} {t:TypeId} (h:Row w g #[c0,c1,c2,c3,c4,c5,c6,c7] t) :
  w.cell? ⟨g,0,none⟩=some c0∧w.cell? ⟨g,1,none⟩=some c1∧w.cell? ⟨g,2,none⟩=some c2∧w.cell? ⟨g,3,none⟩=some c3∧w.cell? ⟨g,4,none⟩=some c4∧w.cell? ⟨g,5,none⟩=some c5∧w.cell? ⟨g,6,none⟩=some c6∧w.cell? ⟨g,7,none⟩=some c7:=⟨h.cell 0,h.cell 1,h.cell 2,h.cell 3,h.cell 4,h.cell 5,h.cell 6,h.cell 7⟩
theorem jb {w:World} {g:Nat} {cs:Array Value} {t:TypeId} (h:Row w g cs t) :
  w.frozen? ⟨g,0,none⟩=false∧w.frozen? ⟨g,1,none⟩=false∧w.frozen? ⟨g,2,none⟩=false∧w.frozen? ⟨g,3,none⟩=false∧w.frozen? ⟨g,4,none⟩=false∧w.frozen? ⟨g,5,none⟩=false∧w.frozen? ⟨g,6,none⟩=false∧w.frozen? ⟨g,7,none⟩=false:=⟨h.frozen 0,h.frozen 1,h.frozen 2,h.frozen 3,h.frozen 4,h.frozen 5,h.frozen 6,h.frozen 7⟩
theorem dz {w:World} {g:Nat} {c0 c1 c2 c3 c4 c5 c6 c7:Value} {t:TypeId} (h:Row w g #[c0,c1,c2,c3,c4,c5,c6,c7] t) (v0 v1 v2 v3 v4 v5 v6 v7:Value):Row ((((((((w.setCell ⟨g,0,none⟩ v0).setCell ⟨g,1,none⟩ v1).setCell ⟨g,2,none⟩ v2).setCell ⟨g,3,none⟩ v3).setCell ⟨g,4,none⟩ v4).setCell ⟨g,5,none⟩ v5).setCell ⟨g,6,none⟩ v6).setCell ⟨g,7,none⟩ v7) g #[v0,v1,v2,v3,v4,v5,v6,v7] t:=by
 simpa using ((((((((h.setCell 0 v0).setCell 1 v1).setCell 2 v2).setCell 3 v3).setCell 4 v4).setCell 5 v5).setCell 6 v6).setCell 7 v7)
theorem fr_set8 {S:Nat→Prop} {w w1:World} {g:Nat} (h:Fr S w w1) (hg:w.heap.size≤g∨S g) (v0 v1 v2 v3 v4 v5 v6 v7:Value):Fr S w ((((((((w1.setCell ⟨g,0,none⟩ v0).setCell ⟨g,1,none⟩ v1).setCell ⟨g,2,none⟩ v2).setCell ⟨g,3,none⟩ v3).setCell ⟨g,4,none⟩ v4).setCell ⟨g,5,none⟩ v5).setCell ⟨g,6,none⟩ v6).setCell ⟨g,7,none⟩ v7):=
 ((((((((h.setCell (p:=⟨g,0,none⟩) hg v0).setCell (p:=⟨g,1,none⟩) hg v1).setCell (p:=⟨g,2,none⟩) hg v2).setCell (p:=⟨g,3,none⟩) hg v3).setCell (p:=⟨g,4,none⟩) hg v4).setCell (p:=⟨g,5,none⟩) hg v5).setCell (p:=⟨g,6,none⟩) hg v6).setCell (p:=⟨g,7,none⟩) hg v7)
section
open Go.RowKit
def Bm.x (B:Bm) (bx:Nat):Nat→Prop:=fun k=>B.s k∨k=bx
def Bm.y (B:Bm) (bx:Nat):Nat→Prop:=fun k=>B.x bx k∨k=B.p
structure Jb (w:World) (B:Bm) (nf bx:Nat) (M:Mc) (X:Wk):Prop where
 m:IsMc w B nf M
 x:IsW w bx X
 p:X.p=B.p
 t:X.t=B.bt
 v:X.v=B.v.map Bk.b
 f1:bx≠B.p
 f2:bx≠B.bf
 f3:bx≠B.bt
 f4:¬ B.g bx
 ok:X.z.Ok
 a:X.a<16
 b:X.b<16
 c:X.c<16
 i:X.imm<65536
 wd:X.wd<4294967296
 pc:0≤X.pc∧X.pc≤65535
section
variable {w w':World} {B:Bm} {nf bx:Nat} {M:Mc} {X:Wk}
theorem Jb.keep0 (h:Jb w B nf bx M X) (f:Fr bg w w'):Jb w' B nf bx M X:={ h with m:=h.m.keep0 f,x:=h.x.keep0 f }
theorem Jb.alloc (h:Jb w B nf bx M X) (o:Obj):Jb (w.alloc o) B nf bx M X:=h.keep0 ((Fr.refl bg w).alloc o)
theorem Jb.drew (h:Jb w B nf bx M X):Jb w.drew B nf bx M X:=h.keep0 (Fr.refl bg w).drew
theorem Jb.lt (h:Jb w B nf bx M X) (k:Nat) (hk:B.x bx k):k<w.heap.size:=by
 rcases hk with hk | rfl
 ·exact h.m.lts k hk
 ·exact h.x.lt
theorem Jb.lty (h:Jb w B nf bx M X) (k:Nat) (hk:B.y bx k):k<w.heap.size:=by
 rcases hk with hk | rfl
 ·exact h.lt k hk
 ·exact h.m.ram.head.lt
theorem Jb.turn (h:Jb w B nf bx M X) (f:Fr (at' bx) w w') {z:Cp} (hx:IsW w' bx { X with z:=z }) (hz:z.Ok):Jb w' B nf bx M { X with z:=z }:=
 {m:=h.m.keep f (fun e=>h.f1 (Eq.symm e)) (fun e=>h.f2 (Eq.symm e)) (fun e=>h.f3 (Eq.symm e)) (fun k hk e=>h.f4 (by have e':k=bx:=e;rw[←e'];exact hk)),x:=hx,p:=h.p,t:=h.t,v:=h.v,f1:=h.f1,f2:=h.f2,f3:=h.f3,f4:=h.f4,ok:=hz,a:=h.a,b:=h.b,c:=h.c,i:=h.i,wd:=h.wd,pc:=h.pc }
theorem fr_x (f:Fr (at' bx) w w'):Fr (B.x bx) w w':=f.mono (fun _ _ h=>Or.inr h)
theorem ro (f:Fr bg w w'):Fr (B.x bx) w w':=f.mono (fun _ _ h=>h.elim)
end
def Aft (w:World) (B:Bm) (nf bx:Nat) (M:Mc) (X:Wk) (e:Ending) (w':World):Prop:=(∃ u,e=.returned u)∧Fr (B.x bx) w w'∧Jb w' B nf bx M X
def Don (w:World) (B:Bm) (nf bx:Nat) (M:Mc) (X:Wk) (t:Tr) (e:Ending) (w':World):Prop:=e=ρ (.agg (trL t))∧Fr (B.x bx) w w'∧Jb w' B nf bx M X
theorem jump_any (w:World) (B:Bm) (nf bx:Nat) (M:Mc) (X:Wk) (h:Jb w B nf bx M X):Calls pQ 72 #[π (some ⟨bx,0,none⟩)] w (Aft w B nf bx M { X with z:=X.z.setP X.imm }):=by
 have c14:=h.x.k14
 obtain ⟨u,cp⟩:=h.x.some_cell (i:=31) (by omega)
 have z:=h.x.frozen 31
 have H:Hid (Jb w B nf bx M X):=h
 clear h
 go_enter Tryz.func72,Tryz.ntmps72
 go_wp2_with fail
 refine j9 rfl rfl fun u=>?_
 have f:=cy w bx 31 (U κ (X.imm:Int)) (Fr.refl _ w)
 exact ⟨⟨u,rfl⟩,fr_x f,H.out.turn f (H.out.x.setP _) (H.out.ok.setP _)⟩
theorem m5 (n:Nat) (h:n<4294967296):IntKind.u32.wrap (n:Int)=(n:Int):=by rw[IntKind.wrap_u32];omega
theorem take_any (w:World) (B:Bm) (nf bx:Nat) (M:Mc) (X:Wk) (h:Jb w B nf bx M X):Calls pQ 59 #[π (some ⟨bx,0,none⟩)] w (Aft w B nf bx M { X with z:=X.z.setR X.a X.imm }):=by
 have c14:=h.x.k14
 have hi:=h.i
 have e1:=m5 X.imm (by omega)
 go_enter Tryz.func59,Tryz.ntmps59
 go_wp2_with fail
 refine(qj _ _ _ _ h.x h.a).mono ?_
 rintro e v ⟨⟨u,rfl⟩,f,hx⟩
 go_wp2_with fail
 refine j9 rfl rfl fun u=>?_
 exact ⟨⟨u,rfl⟩,fr_x f,h.turn f hx (h.ok.setR _ (by omega))⟩
theorem link_any (w:World) (B:Bm) (nf bx:Nat) (M:Mc) (X:Wk) (h:Jb w B nf bx M X):Calls pQ 73 #[π (some ⟨bx,0,none⟩)] w (Aft w B nf bx M { X with z:=(X.z.setR X.a ((X.pc+4)%65536).toNat).setP X.imm }):=by
 have hp:=h.pc
 obtain ⟨n,hn⟩:∃ n:Nat,(X.pc+4)%65536=n:=⟨((X.pc+4)%65536).toNat,by omega⟩
 have hn2:n<65536:=by omega
 have hb:=behind_any w bx X h.x hp
 rw[hn] at hb ⊢
 rw[Int.toNat_natCast]
 have e1:=m5 n (by omega)
 clear hn hp
 go_enter Tryz.func73,Tryz.ntmps73
 go_wp2_with fail
 refine hb.mono ?_
 rintro e v ⟨rfl,rfl⟩
 go_wp2_with fail
 refine(qj _ _ _ _ h.x h.a).mono ?_
 rintro e v1 ⟨⟨u,rfl⟩,f,hx⟩
 have h1:=h.turn f hx (h.ok.setR _ (by omega))
 go_wp2_with fail
 refine(jump_any _ B nf bx M _ h1).mono ?_
 rintro e v2 ⟨⟨u,rfl⟩,f2,h2⟩
 go_wp2_with fail
 refine j9 rfl rfl fun u=>?_
 exact ⟨⟨u,rfl⟩,(fr_x f).trans f2,h2⟩
theorem turn_any (w:World) (B:Bm) (nf bx:Nat) (M:Mc) (X:Wk) (h:Jb w B nf bx M X):Calls pQ 74 #[π (some ⟨bx,0,none⟩)] w (Aft w B nf bx M { X with z:=X.z.setP ((X.z.r X.b%65536:Nat):Int) }):=by
 have hr:=h.ok.r X.b
 have e1:=and16 (X.z.r X.b:Int)
 have e2:IntKind.i64.wrap (X.z.r X.b:Int)=(X.z.r X.b:Int):=by rw[IntKind.wrap_i64];omega
 rw[show(X.z.r X.b:Int)%65536=((X.z.r X.b%65536:Nat):Int) by omega] at e1
 obtain ⟨y,hy⟩:∃ y:Nat,X.z.r X.b%65536=y:=⟨_,rfl⟩
 rw[hy] at e1 ⊢
 clear hy
 go_enter Tryz.func74,Tryz.ntmps74
 go_wp2_with fail
 refine(b_any _ _ _ h.x h.b).mono ?_
 rintro e v ⟨rfl,m,rfl⟩
 have h1:=h.keep0 (bo w m)
 obtain ⟨v,hv⟩:∃ v,v=w.drewN m:=⟨_,rfl⟩
 have f0:=bo w m
 rw[←hv] at h1 f0 ⊢
 clear hv
 obtain ⟨u,cp⟩:=h1.x.some_cell (i:=31) (by omega)
 have z:=h1.x.frozen 31
 have H:Hid (Jb v B nf bx M X):=h1
 clear h1 h
 go_wp2_with fail
 refine j9 rfl rfl fun u=>?_
 have f:=cy v bx 31 (U κ (y:Int)) (Fr.refl _ v)
 exact ⟨⟨u,rfl⟩,(ro f0).trans (fr_x f),H.out.turn f (H.out.x.setP _) (H.out.ok.setP _)⟩
theorem nothing_any (w:World) (B:Bm) (nf bx:Nat) (M:Mc) (X:Wk) (h:Jb w B nf bx M X):Calls pQ 82 #[π (some ⟨bx,0,none⟩)] w (Aft w B nf bx M X):=by
 go_enter Tryz.func82,Tryz.ntmps82
 go_wp2_with fail
 refine j9 rfl rfl fun u=>?_
 exact ⟨⟨u,rfl⟩,Fr.refl _ _,h⟩
theorem je {w w1:World} {B:Bm} {nf bx:Nat} {M:Mc} {X:Wk} {g:Nat} (f:Fr (B.x bx) w w1) (h:Jb w1 B nf bx M X) (hg:w.heap.size≤g) (hB:∀ k,B.y bx k→k<w.heap.size) (t:Tr) (v0 v1 v2 v3 v4 v5 v6 v7:Value) (ht:#[v0,v1,v2,v3,v4,v5,v6,v7]=trL t):Don w B nf bx M X t (ρ (.agg #[v0,v1,v2,v3,v4,v5,v6,v7])) ((((((((w1.setCell ⟨g,0,none⟩ v0).setCell ⟨g,1,none⟩ v1).setCell ⟨g,2,none⟩ v2).setCell ⟨g,3,none⟩ v3).setCell ⟨g,4,none⟩ v4).setCell ⟨g,5,none⟩ v5).setCell ⟨g,6,none⟩ v6).setCell ⟨g,7,none⟩ v7):=by
 have q:Fr (at' g) w1 ((((((((w1.setCell ⟨g,0,none⟩ v0).setCell ⟨g,1,none⟩ v1).setCell ⟨g,2,none⟩ v2).setCell ⟨g,3,none⟩ v3).setCell ⟨g,4,none⟩ v4).setCell ⟨g,5,none⟩ v5).setCell ⟨g,6,none⟩ v6).setCell ⟨g,7,none⟩ v7):=fr_set8 (S:=at' g) (Fr.refl _ w1) (Or.inr (show g=g from rfl)) _ _ _ _ _ _ _ _
 have n1:∀ k,B.y bx k→¬ at' g k:=fun k hk e=>by have:=hB k hk;have e':k=g:=e;omega
 exact ⟨by rw[ht],f.newerS q hg,{ h with m:=h.m.keep q (n1 _ (Or.inr rfl)) (n1 _ (Or.inl (Or.inl (Or.inl rfl)))) (n1 _ (Or.inl (Or.inl (Or.inr (Or.inl rfl))))) (fun k hk=>n1 k (Or.inl (Or.inl (Or.inr (Or.inr hk))))),x:=h.x.keep q (n1 _ (Or.inl (Or.inr rfl))) }⟩
theorem d9 (w:World) (B:Bm) (nf bx:Nat) (M M':Mc) (X X':Wk) (bc fn:Nat) (caps:Array Value) (hc:w.cell? ⟨bc,0,none⟩=some (.func (.func fn) #[] caps))
  (hen:∀ (args:Array Value) (w1:World),(callFunc fn args).run pQ w1=.ok (.enter fn args) w1)
  (h:Jb w B nf bx M X) (H:∀ w1,Fr bg w w1→Jb w1 B nf bx M X→Calls pQ fn (#[π (some ⟨bx,0,none⟩)] ++ caps) w1 (Aft w1 B nf bx M' X')) :
  Calls pQ 109 #[π (some ⟨bx,0,none⟩),π (some ⟨bc,0,none⟩)] w (Don w B nf bx M' X' t0):=by
 have f1:=(Fr.refl bg w).alloc (ω (trL t0) 52)
 have h1:=h.alloc (ω (trL t0) 52)
 have r1:=ba w (trL t0) 52
 have c1:=cd f1 hc (fun h=>h)
 have H1:=H _ f1 h1
 have L:Hid (∀ k,B.y bx k→k<w.heap.size):=h.lty
 clear hc h H
 unfold trL t0 f0 at c1 f1 h1 r1 H1
 go_enter Tryz.func109,Tryz.ntmps109
 go_wp2_with fail
 refine H1.mono ?_
 rintro e v ⟨⟨u,rfl⟩,f2,h2⟩
 replace r1:=r1.keep f2 (fun hk=>absurd (L.out _ (Or.inl hk)) (by omega))
 have f3:=(ro (B:=B) (bx:=bx) f1).trans f2
 clear H1 f2 h1 c1
 have HJ:Hid (Jb v B nf bx M' X'):=h2
 clear h2
 obtain ⟨d0,d1,d2,d3,d4,d5,d6,d7⟩:=jd r1
 obtain ⟨z0,z1,z2,z3,z4,z5,z6,z7⟩:=jb r1
 go_wp2_with fail
 refine bodyPost_ret (gl rfl rfl (dz r1 _ _ _ _ _ _ _ _) rfl) rfl ?_
 exact je f3 HJ.out (Nat.le_refl _) L.out t0 _ _ _ _ _ _ _ _ rfl
end
theorem yj (w:World) (g:Nat) (v0 v1 v2 v3 v4 v5 v6 v7:Value):Fr (at' g) w ((((((((w.setCell ⟨g,0,none⟩ v0).setCell ⟨g,1,none⟩ v1).setCell ⟨g,2,none⟩ v2).setCell ⟨g,3,none⟩ v3).setCell ⟨g,4,none⟩ v4).setCell ⟨g,5,none⟩ v5).setCell ⟨g,6,none⟩ v6).setCell ⟨g,7,none⟩ v7):=fr_set8 (S:=at' g) (Fr.refl _ w) (Or.inr (show g=g from rfl)) _ _ _ _ _ _ _ _
theorem jx (w:World) (g:Nat) (v0 v1 v2 v3 v4:Value):Fr (at' g) w (((((w.setCell ⟨g,0,none⟩ v0).setCell ⟨g,1,none⟩ v1).setCell ⟨g,2,none⟩ v2).setCell ⟨g,3,none⟩ v3).setCell ⟨g,4,none⟩ v4):=(Fr.refl (at' g) w).put5 (Or.inr (show g=g from rfl)) _ _ _ _ _
theorem row_set5' {w:World} {g:Nat} {c0 c1 c2 c3 c4:Value} {t:TypeId} (h:Row w g #[c0,c1,c2,c3,c4] t) (v0 v1 v2 v3 v4:Value):Row (((((w.setCell ⟨g,0,none⟩ v0).setCell ⟨g,1,none⟩ v1).setCell ⟨g,2,none⟩ v2).setCell ⟨g,3,none⟩ v3).setCell ⟨g,4,none⟩ v4) g #[v0,v1,v2,v3,v4] t:=h.put5 _ _ _ _ _
theorem Jb.past {w w':World} {B:Bm} {nf bx:Nat} {M:Mc} {X:Wk} {g:Nat} (h:Jb w B nf bx M X) (f:Fr (at' g) w w') (hn:∀ k,B.y bx k→k≠g):Jb w' B nf bx M X:=
 { h with m:=h.m.keep f (hn _ (Or.inr rfl)) (hn _ (Or.inl (Or.inl (Or.inl rfl)))) (hn _ (Or.inl (Or.inl (Or.inr (Or.inl rfl))))) (fun k hk=>hn k (Or.inl (Or.inl (Or.inr (Or.inr hk))))),x:=h.x.keep f (hn _ (Or.inl (Or.inr rfl))) }
theorem vn {a b:Nat} (h:a<b):¬ at' b a:=fun e=>by have e':a=b:=e;omega
theorem ks {S:Nat→Prop} {w w':World} (f:Fr S w.drew w'):Fr S w w':=((Fr.refl S w).drew).trans f
theorem rs_alloc {S:Nat→Prop} {w w':World} {o:Obj} (f:Fr S (w.drew.alloc o) w'):Fr S w w':=((Fr.refl S w).drew.alloc o).trans f
theorem nk {w:World} (m:Nat):∃ v,v=w.drewN m∧Fr bg w v:=⟨_,rfl,bo w m⟩
end Go.Proofs.YtibhbjbpodlpiaaGreat
