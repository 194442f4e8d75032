/-
  Contracts over the translation. No statement is proved here.
-/
import Derived.Test.YtibhbjbpodlpiaaGreatQCpuMade
set_option maxRecDepth 100000
set_option maxHeartbeats 8000000
namespace Go.Proofs.YtibhbjbpodlpiaaGreat
open Go.RowKit
open Go.Value renaming int → U, bool → β, pointer → π, tuple → τ
open Go.IntKind renaming i64 → κ, u32 → μ
open Go.Obj renaming cells → ω
open Go.Ending renaming returned → ρ
open Go.Proofs.Tryz renaming prog → pQ
theorem size_world:(Tryz.prog.info? 25).map (·.size)=some 5:=by kernel_rfl
theorem ret_world {fn:Func} {p:Tmp} {tmps:Array Value} {g:Nat} {cs:Array Value} {w:World} (h:fn.results=#[.cell p 25]) (hp:tmps.getD p undef=π (some ⟨g,0,none⟩)) (hr:Row w g cs 25) (hs:cs.size=5) :
  (results fn tmps).run pQ w=.ok (.agg cs) w:=
 results_cell_row h tmps w g _ cs (0,0) _ hp hr Tryz.underlying25 rfl (by rw[hs];exact size_world)
theorem size_entry:(Tryz.prog.info? 77).map (·.size)=some 4:=by kernel_rfl
theorem ret_entry {fn:Func} {p:Tmp} {tmps:Array Value} {g:Nat} {cs:Array Value} {w:World} (h:fn.results=#[.cell p 77]) (hp:tmps.getD p undef=π (some ⟨g,0,none⟩)) (hr:Row w g cs 77) (hs:cs.size=4) :
  (results fn tmps).run pQ w=.ok (.agg cs) w:=
 results_cell_row h tmps w g _ cs (0,0) _ hp hr Tryz.underlying77 rfl (by rw[hs];exact size_entry)
theorem leaf_any (w:World) (f r:Int):Calls pQ 49 #[U κ f,U κ r] w fun e w'=>e=ρ (.agg #[β true,β true,U κ r,U κ f])∧Fr bg w w':=by
 go_enter Tryz.func49,Tryz.ntmps49
 go_wp2_with fail
 refine bodyPost_ret (ret_entry rfl rfl (ba _ _ _) rfl) rfl ?_
 exact ⟨rfl,(Fr.refl _ w).alloc _⟩
def exP:Nat→Pu
 | 0=>⟨3,0,true,false,0,4⟩
 | 1=>⟨4,0,true,true,5,1⟩
 | _=>⟨4,1,true,true,3,2⟩
def exQ (W:Nat):Nat→Wo
 | 0=>⟨64,W⟩
 | _=>⟨128,77⟩
def exB (W:Nat):List UInt8:=wB (pB exP 3) (exQ W) 2
theorem n8 (w:World) (o a b c i:Int) (g:Bool) (W:Nat) (hW:kp o a b c i=W) (hWl:W<4294967296) :
  Calls pQ 17 #[.agg #[U κ o,U κ a,U κ b,U κ c,U κ i],β g] w fun e w'=>∃ a0 a1,e=ρ (.agg #[.slice a0 3 3,.slice a1 2 2,β g,U κ 1,U κ 3])∧Fr bg w w'∧Pus w' a0 3 exP∧Wos w' a1 2 (exQ W):=by
 have hE:=fun w1=>yg o a b c i w1
 rw[hW] at hE
 have f0:=((Fr.refl bg w).alloc (ω #[U κ o,U κ a,U κ b,U κ c,U κ i] 69)).alloc (ω #[.slice none 0 0,.slice none 0 0,β false,U κ 0,U κ 0] 25)
 have rr:=dq (W:=w.alloc (ω #[U κ o,U κ a,U κ b,U κ c,U κ i] 69)) (n:=w.heap.size+1) (cs:=#[.slice none 0 0,.slice none 0 0,β false,U κ 0,U κ 0]) (t:=25) (by simp)
 clear hW
 go_enter Tryz.func17,Tryz.ntmps17
 go_wp2_with fail
 refine(hE _).mono ?_
 rintro e v1 ⟨rfl,g1⟩
 replace f0:=f0.trans g1
 replace rr:=rr.keep g1 (fun h=>h)
 clear g1 hE
 go_wp2_with fail
 refine(leaf_any _ _ _).mono ?_
 rintro e v2 ⟨rfl,g2⟩
 replace f0:=f0.trans g2
 replace rr:=rr.keep g2 (fun h=>h)
 clear g2
 go_wp2_with fail
 refine(leaf_any _ _ _).mono ?_
 rintro e v3 ⟨rfl,g3⟩
 replace f0:=f0.trans g3
 replace rr:=rr.keep g3 (fun h=>h)
 clear g3
 have hlt:=rr.lt
 have HG:Hid (w.heap.size+1<v3.heap.size):=hlt
 clear hlt
 have f4:=(f0.alloc (ω #[U κ 3,U κ 0,β true,β false,U κ 0,U κ 4,U κ 4,U κ 0,β true,β true,U κ 5,U κ 1,U κ 4,U κ 1,β true,β true,U κ 3,U κ 2] 79)).alloc (ω #[U κ 64,U μ (W:Int),U κ 128,U μ 77] 83)
 have rr2:=(rr.alloc (ω #[U κ 3,U κ 0,β true,β false,U κ 0,U κ 4,U κ 4,U κ 0,β true,β true,U κ 5,U κ 1,U κ 4,U κ 1,β true,β true,U κ 3,U κ 2] 79)).alloc (ω #[U κ 64,U μ (W:Int),U κ 128,U μ 77] 83)
 have rp:=(ba v3 #[U κ 3,U κ 0,β true,β false,U κ 0,U κ 4,U κ 4,U κ 0,β true,β true,U κ 5,U κ 1,U κ 4,U κ 1,β true,β true,U κ 3,U κ 2] 79).alloc (ω #[U κ 64,U μ (W:Int),U κ 128,U μ 77] 83)
 have rw':=dq (W:=v3.alloc (ω #[U κ 3,U κ 0,β true,β false,U κ 0,U κ 4,U κ 4,U κ 0,β true,β true,U κ 5,U κ 1,U κ 4,U κ 1,β true,β true,U κ 3,U κ 2] 79)) (n:=v3.heap.size+1) (cs:=#[U κ 64,U μ (W:Int),U κ 128,U μ 77]) (t:=83) (by simp)
 obtain ⟨z0,z1,z2,z3,z4⟩:=bz rr2
 obtain ⟨x0,x1,x2,x3,x4⟩:=bl rr2
 go_wp2_with fail
 obtain ⟨v4,hv4⟩:∃ v4,v4=(v3.alloc (ω #[U κ 3,U κ 0,β true,β false,U κ 0,U κ 4,U κ 4,U κ 0,β true,β true,U κ 5,U κ 1,U κ 4,U κ 1,β true,β true,U κ 3,U κ 2] 79)).alloc (ω #[U κ 64,U μ (W:Int),U κ 128,U μ 77] 83):=⟨_,rfl⟩
 rw[←hv4] at rr2 rp rw' f4 ⊢
 clear hv4 x0 x1 x2 x3 x4 z0 z1 z2 z3 z4
 refine bodyPost_ret (ret_world rfl rfl (row_set5' rr2 _ _ _ _ _) rfl) rfl ?_
 have q:=jx v4 (w.heap.size+1) (.slice (some ⟨v3.heap.size,0,none⟩) 3 3) (.slice (some ⟨v3.heap.size+1,0,none⟩) 2 2) (β g) (U κ 1) (U κ 3)
 have hp:=rp.keep q (show v3.heap.size≠w.heap.size+1 by have:=HG.out;omega)
 have hw:=rw'.keep q (show v3.heap.size+1≠w.heap.size+1 by have:=HG.out;omega)
 refine ⟨_,_,rfl,f4.newer q (by omega),fun k hk=>?_,fun k hk=>?_⟩
 ·have hk3:k=0∨k=1∨k=2:=by omega
  rcases hk3 with rfl | rfl | rfl
  ·exact ⟨_,_,rfl,hp.cell 0,hp.cell 1,hp.cell 2,hp.cell 3,hp.cell 4,hp.cell 5⟩
  ·exact ⟨_,_,rfl,hp.cell 6,hp.cell 7,hp.cell 8,hp.cell 9,hp.cell 10,hp.cell 11⟩
  ·exact ⟨_,_,rfl,hp.cell 12,hp.cell 13,hp.cell 14,hp.cell 15,hp.cell 16,hp.cell 17⟩
 ·have hk2:k=0∨k=1:=by omega
  rcases hk2 with rfl | rfl
  ·exact ⟨_,_,rfl,hw.cell 0,hw.cell 1,(by decide:(64:Int)≤9223372036854775807),hWl⟩
  ·exact ⟨_,_,rfl,hw.cell 2,hw.cell 3,(by decide:(128:Int)≤9223372036854775807),(by decide:(77:Nat)<4294967296)⟩
theorem exmade_any (w:World) (a0 a1:Option Addr) (g:Bool) (W:Nat) (hP:Pus w a0 3 exP) (hQ:Wos w a1 2 (exQ W)) :
  Calls pQ 5 #[.agg #[.slice a0 3 3,.slice a1 2 2,β g,U κ 1,U κ 3]] w fun e w'=>∃ O:Bo,e=ρ (τ #[.agg O.a,β true])∧Fr bg w w'∧IsBo w' w.heap.size O (M0 (exB W) g):=
 made_any w a0 a1 3 3 2 2 g 1 3 exP (exQ W) (by decide) (by decide) hP hQ
end Go.Proofs.YtibhbjbpodlpiaaGreat
