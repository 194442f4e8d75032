/-
  Contracts over the translation. No statement is proved here.
-/
import Derived.Test.YtibhbjbpodlpiaaGreatQJB
import Derived.Test.YtibhbjbpodlpiaaGreatQJD
set_option maxRecDepth 100000
set_option maxHeartbeats 8000000
namespace Go.Proofs.YtibhbjbpodlpiaaGreat
open Go.RowKit
open Go.Value renaming int → U, bool → β, pointer → π, tuple → τ
open Go.IntKind renaming i64 → κ, u32 → μ
open Go.Obj renaming cells → ω
open Go.Ending renaming returned → ρ
open Go.Proofs.Tryz renaming prog → pQ
structure Ft where (k s l:Int) (wk:Bool) (p:Int)
structure Res where (fr ri:Int) (ft:Ft)
def f0:Ft:=⟨0,0,0,false,0⟩
def isR (n:Int):Bool:=n == 1 || (n == 2 || n == 4)
def isP (n:Int):Bool:=decide (0≤n) && decide (n≤1023)
def feq (x y:Ft):Bool:=x.k == y.k && (x.s == y.s && (x.l == y.l && (x.wk == y.wk && x.p == y.p)))
def ew (bs:List UInt8) (t page lvl:Int):Int:=((cc bs t.toNat (np page lvl).toNat:Nat):Int)
def kt (x lvl:Int):Bool:=dv x && (dl x == decide (lvl=1))
def jq (bs:List UInt8) (nf:Nat) (t page lvl:Int):Int:=
 if t<0∨(nf:Int)≤t then 3 else if kt (ew bs t page lvl) lvl=true then 0 else 1
def rv (k s l:Int) (wk:Bool) (p:Int):Res:=⟨0,0,⟨k,s,l,wk,p⟩⟩
def cv (bs:List UInt8) (nf:Nat) (root page:Int):Res:=
 if isP page=false then rv 3 0 0 false 0
 else if jq bs nf root page 0≠0 then rv (jq bs nf root page 0) 2 0 false page
 else if jq bs nf (df (ew bs root page 0)) page 1≠0 then rv (jq bs nf (df (ew bs root page 0)) page 1) 2 1 false page
 else ⟨df (ew bs (df (ew bs root page 0)) page 1),dr (ew bs (df (ew bs root page 0)) page 1),f0⟩
def ce (bs:List UInt8) (nf:Nat) (root page want:Int):Res:=
 if (cv bs nf root page).ft.k≠0 then cv bs nf root page
 else if bits .and .i64 (cv bs nf root page).ri want=0 then rv 2 2 1 false page
 else cv bs nf root page
def rj (bs:List UInt8) (nf:Nat) (second table:Int):Res:=
 if (ce bs nf second table 1).ft.k≠0 then ⟨0,0,⟨(ce bs nf second table 1).ft.k,(ce bs nf second table 1).ft.s,(ce bs nf second table 1).ft.l,true,(ce bs nf second table 1).ft.p⟩⟩
 else ce bs nf second table 1
def ci (bs:List UInt8) (nf:Nat) (second table page lvl:Int):Res:=
 if (rj bs nf second table).ft.k≠0 then rj bs nf second table
 else if jq bs nf (rj bs nf second table).fr page lvl≠0 then rv (jq bs nf (rj bs nf second table).fr page lvl) 1 lvl false page
 else ⟨df (ew bs (rj bs nf second table).fr page lvl),dr (ew bs (rj bs nf second table).fr page lvl),f0⟩
def cg (bs:List UInt8) (nf:Nat) (first second page want:Int):Res:=
 if isP page=false∨isR want=false then rv 3 0 0 false 0
 else if first<0 then ce bs nf second page want
 else if (ci bs nf second first page 0).ft.k≠0 then ci bs nf second first page 0
 else if (ci bs nf second (ci bs nf second first page 0).fr page 1).ft.k≠0 then ci bs nf second (ci bs nf second first page 0).fr page 1
 else if bits .and .i64 (ci bs nf second (ci bs nf second first page 0).fr page 1).ri want=0 then rv 2 1 1 false page
 else ⟨(ce bs nf second (ci bs nf second (ci bs nf second first page 0).fr page 1).fr want).fr,
  bits .and .i64 (ce bs nf second (ci bs nf second (ci bs nf second first page 0).fr page 1).fr want).ri (ci bs nf second (ci bs nf second first page 0).fr page 1).ri,
  (ce bs nf second (ci bs nf second (ci bs nf second first page 0).fr page 1).fr want).ft⟩
theorem jp {n:Int}:isP n=true ↔ 0≤n∧n≤1023:=by simp[isP]
theorem sj {n:Int}:isR n=true ↔ n=1∨n=2∨n=4:=by simp[isR]
theorem qy (bs:List UInt8) (nf:Nat) (t page lvl:Int):(jq bs nf t page lvl=3∧(t<0∨(nf:Int)≤t))∨(jq bs nf t page lvl=0∧¬ (t<0∨(nf:Int)≤t)∧kt (ew bs t page lvl) lvl=true)∨(jq bs nf t page lvl=1∧¬ (t<0∨(nf:Int)≤t)∧kt (ew bs t page lvl) lvl=false):=by
 unfold jq
 by_cases h:t<0∨(nf:Int)≤t
 ·exact Or.inl ⟨if_pos h,h⟩
 ·rw[if_neg h]
  cases hu:kt (ew bs t page lvl) lvl with
  | true=>exact Or.inr (Or.inl ⟨if_pos rfl,h,rfl⟩)
  | false=>exact Or.inr (Or.inr ⟨by simp,h,rfl⟩)
theorem wz (bs:List UInt8) (nf:Nat) (root page:Int) (h:(cv bs nf root page).ft.k≠0):(cv bs nf root page).fr=0∧(cv bs nf root page).ri=0:=by
 unfold cv at h ⊢
 split at h
 ·rename_i h1;rw[if_pos h1];exact ⟨rfl,rfl⟩
 ·rename_i h1
  rw[if_neg h1]
  split at h
  ·rename_i h2;rw[if_pos h2];exact ⟨rfl,rfl⟩
  ·rename_i h2
   rw[if_neg h2]
   split at h
   ·rename_i h3;rw[if_pos h3];exact ⟨rfl,rfl⟩
   ·exact absurd rfl h
theorem p5 (bs:List UInt8) (nf:Nat) (root page want:Int) (h:(ce bs nf root page want).ft.k≠0):(ce bs nf root page want).fr=0∧(ce bs nf root page want).ri=0:=by
 unfold ce at h ⊢
 split at h
 ·rename_i h1;rw[if_pos h1];exact wz bs nf root page h1
 ·rename_i h1
  rw[if_neg h1]
  split at h
  ·rename_i h2;rw[if_pos h2];exact ⟨rfl,rfl⟩
  ·exact absurd h h1
theorem size_fault:(Tryz.prog.info? 50).map (·.size)=some 5:=by kernel_rfl
theorem vf {w:World} {g:Nat} {cs:Array Value} (hr:Row w g cs 50) (hs:cs.size=5):(loadVar 50 ⟨g,0,none⟩).run pQ w=.ok (.agg cs) w:=
 run_loadVar_row w g _ 50 cs (0,0) _ hr Tryz.underlying50 rfl (by rw[hs];exact size_fault)
theorem load_entry {w:World} {g:Nat} {cs:Array Value} (hr:Row w g cs 77) (hs:cs.size=4):(loadVar 77 ⟨g,0,none⟩).run pQ w=.ok (.agg cs) w:=
 run_loadVar_row w g _ 77 cs (0,0) _ hr Tryz.underlying77 rfl (by rw[hs];exact size_ent)
theorem ret_f {fn:Func} {p:Tmp} {tmps:Array Value} {g:Nat} {cs:Array Value} {w:World} (h:fn.results=#[.cell p 50]) (hp:tmps.getD p undef=π (some ⟨g,0,none⟩)) (hr:Row w g cs 50) (hs:cs.size=5) :
  (results fn tmps).run pQ w=.ok (.agg cs) w:=
 results_cell_row h tmps w g _ cs (0,0) _ hp hr Tryz.underlying50 rfl (by rw[hs];exact size_fault)
theorem jt {fn:Func} {t p:Tmp} {tmps:Array Value} {g:Nat} {cs:Array Value} {w:World} (h:fn.results=#[.tmp t,.cell p 50]) (hp:tmps.getD p undef=π (some ⟨g,0,none⟩)) (hr:Row w g cs 50) (hs:cs.size=5) :
  (results fn tmps).run pQ w=.ok (τ #[tmps.getD t undef,.agg cs]) w:=by
 have hl:=vf hr hs
 have hp':tmps[p]?.getD undef=π (some ⟨g,0,none⟩):=by simpa using hp
 simp only[results,h]
 simp[Result.andThen,hp',asAddr,hl]
theorem gk {fn:Func} {t u p:Tmp} {tmps:Array Value} {g:Nat} {cs:Array Value} {w:World} (h:fn.results=#[.tmp t,.tmp u,.cell p 50]) (hp:tmps.getD p undef=π (some ⟨g,0,none⟩)) (hr:Row w g cs 50) (hs:cs.size=5) :
  (results fn tmps).run pQ w=.ok (τ #[tmps.getD t undef,tmps.getD u undef,.agg cs]) w:=by
 have hl:=vf hr hs
 have hp':tmps[p]?.getD undef=π (some ⟨g,0,none⟩):=by simpa using hp
 simp only[results,h]
 simp[Result.andThen,hp',asAddr,hl]
theorem lk {fn:Func} {q p:Tmp} {tmps:Array Value} {g g':Nat} {cs cs':Array Value} {w:World} (h:fn.results=#[.cell q 77,.cell p 50]) (hq:tmps.getD q undef=π (some ⟨g',0,none⟩)) (hr':Row w g' cs' 77) (hs':cs'.size=4)
  (hp:tmps.getD p undef=π (some ⟨g,0,none⟩)) (hr:Row w g cs 50) (hs:cs.size=5) :
  (results fn tmps).run pQ w=.ok (τ #[.agg cs',.agg cs]) w:=by
 have hl:=vf hr hs
 have hl':=load_entry hr' hs'
 have hp':tmps[p]?.getD undef=π (some ⟨g,0,none⟩):=by simpa using hp
 have hq':tmps[q]?.getD undef=π (some ⟨g',0,none⟩):=by simpa using hq
 simp only[results,h]
 simp[Sem.run_bind,Result.andThen,hp',hq',asAddr,hl,hl']
theorem cl {w:World} {b:Nat} {c0 c1 c2 c3:Value} {t:TypeId} (h:Row w b #[c0,c1,c2,c3] t) :
  w.cell? ⟨b,0,none⟩=some c0∧w.cell? ⟨b,1,none⟩=some c1∧w.cell? ⟨b,2,none⟩=some c2∧w.cell? ⟨b,3,none⟩=some c3:=
 ⟨h.cell 0,h.cell 1,h.cell 2,h.cell 3⟩
theorem dh (x:Ft) (w:World):Calls pQ 159 #[.agg #[U κ x.k,U κ x.s,U κ x.l,β x.wk,U κ x.p]] w fun e w'=>e=ρ (β (x.k == 0))∧Fr bg w w':=by
 go_enter Tryz.func159,Tryz.ntmps159
 go_wp2_with fail
 go_ret
 exact ⟨rfl,(Fr.refl _ _).alloc _⟩
theorem sh (w:World):Calls pQ 171 #[] w fun e w'=>e=ρ (.agg #[U κ 3,U κ 0,U κ 0,β false,U κ 0])∧Fr bg w w':=by
 go_enter Tryz.func171,Tryz.ntmps171
 go_wp2_with fail
 refine bodyPost_ret (ret_f rfl rfl (ba _ _ _) rfl) rfl ?_
 exact ⟨rfl,(Fr.refl _ _).alloc _⟩
theorem itself_any (t:Int) (w:World):Calls pQ 184 #[U κ t] w fun e w'=>e=ρ (τ #[U κ t,.agg #[U κ 0,U κ 0,U κ 0,β false,U κ 0]])∧Fr bg w w':=by
 go_enter Tryz.func184,Tryz.ntmps184
 go_wp2_with fail
 refine bodyPost_ret (jt rfl rfl (ba _ _ _) rfl) rfl ?_
 exact ⟨rfl,(Fr.refl _ _).alloc _⟩
theorem jo (n:Int) (w:World):Calls pQ 170 #[U κ n] w fun e w'=>e=ρ (β (isP n))∧w'=w:=by
 by_cases h0:0≤n
 ·go_enter Tryz.func170,Tryz.ntmps170
  go_wp2_with fail
  go_ret
  refine ⟨jk ?_,rfl⟩
  simp only[isP,decide_eq_true h0,Bool.true_and]
  exact decide_eq_decide.2 (by omega)
 ·have h1:decide (0≤n)=false:=decide_eq_false h0
  go_enter Tryz.func170,Tryz.ntmps170
  go_wp2_with fail
  go_ret
  exact ⟨by simp[isP,h1],rfl⟩
theorem jc (n:Int) (w:World):Calls pQ 157 #[U κ n] w fun e w'=>e=ρ (β (isR n))∧w'=w:=by
 cases h1:(n == 1) with
 | true =>
  go_enter Tryz.func157,Tryz.ntmps157
  go_wp2_with fail
  go_ret
  exact ⟨by simp[isR,h1],rfl⟩
 | false =>
  cases h2:(n == 2) with
  | true =>
   go_enter Tryz.func157,Tryz.ntmps157
   go_wp2_with fail
   go_ret
   exact ⟨by simp[isR,h2],rfl⟩
  | false =>
   go_enter Tryz.func157,Tryz.ntmps157
   go_wp2_with fail
   go_ret
   exact ⟨by simp[isR,h1,h2],rfl⟩
def gz (w:World) (b p:Nat) (st lv pg:Int):Prop:=Row w b #[π (some ⟨p,0,none⟩),U κ st,U κ lv,U κ pg] 232
theorem lg (w:World) (b p:Nat) (st lv pg kind:Int) (h:gz w b p st lv pg) :
  Calls pQ 175 #[π (some ⟨b,0,none⟩),U κ kind] w fun e w'=>e=ρ (.agg #[U κ kind,U κ st,U κ lv,β false,U κ pg])∧Fr bg w w':=by
 have h0:Row w b _ _:=h
 have h1:=h0.alloc (ω #[U κ 0,U κ 0,U κ 0,β false,U κ 0] 50)
 have hb:b≠w.heap.size:=Nat.ne_of_lt h0.lt
 obtain ⟨c0,c1,c2,c3⟩:=cl h1
 clear h h0 h1
 go_enter Tryz.func175,Tryz.ntmps175
 go_wp2_with fail
 go_region
 go_wp2_with fail
 refine bodyPost_ret (ret_f rfl rfl (ba _ _ _).drew rfl) rfl ?_
 exact ⟨rfl,((Fr.refl _ _).alloc _).drew⟩
def put4 (w:World) (b:Nat) (c0 c1 c2 c3:Value):World:=(((w.setCell ⟨b,0,none⟩ c0).setCell ⟨b,1,none⟩ c1).setCell ⟨b,2,none⟩ c2).setCell ⟨b,3,none⟩ c3
def put5 (w:World) (b:Nat) (c0 c1 c2 c3 c4:Value):World:=((((w.setCell ⟨b,0,none⟩ c0).setCell ⟨b,1,none⟩ c1).setCell ⟨b,2,none⟩ c2).setCell ⟨b,3,none⟩ c3).setCell ⟨b,4,none⟩ c4
theorem Row.put4 {w:World} {b:Nat} {a0 a1 a2 a3:Value} {t:TypeId} (h:Row w b #[a0,a1,a2,a3] t) (c0 c1 c2 c3:Value):Row (put4 w b c0 c1 c2 c3) b #[c0,c1,c2,c3] t:=
 (((h.setCell 0 c0).setCell 1 c1).setCell 2 c2).setCell 3 c3
theorem Row.put5 {w:World} {b:Nat} {a0 a1 a2 a3 a4:Value} {t:TypeId} (h:Row w b #[a0,a1,a2,a3,a4] t) (c0 c1 c2 c3 c4:Value):Row (put5 w b c0 c1 c2 c3 c4) b #[c0,c1,c2,c3,c4] t:=
 ((((h.setCell 0 c0).setCell 1 c1).setCell 2 c2).setCell 3 c3).setCell 4 c4
theorem Fr.put4 {S:Nat→Prop} {w w1:World} {b:Nat} (f:Fr S w w1) (hb:w.heap.size≤b∨S b) (c0 c1 c2 c3:Value):Fr S w (put4 w1 b c0 c1 c2 c3):=
 (((f.setCell (p:=⟨b,0,none⟩) hb c0).setCell (p:=⟨b,1,none⟩) hb c1).setCell (p:=⟨b,2,none⟩) hb c2).setCell (p:=⟨b,3,none⟩) hb c3
theorem Fr.put5 {S:Nat→Prop} {w w1:World} {b:Nat} (f:Fr S w w1) (hb:w.heap.size≤b∨S b) (c0 c1 c2 c3 c4:Value):Fr S w (put5 w1 b c0 c1 c2 c3 c4):=
 ((((f.setCell (p:=⟨b,0,none⟩) hb c0).setCell (p:=⟨b,1,none⟩) hb c1).setCell (p:=⟨b,2,none⟩) hb c2).setCell (p:=⟨b,3,none⟩) hb c3).setCell (p:=⟨b,4,none⟩) hb c4
theorem Row.past4 {w:World} {b b':Nat} {cs:Array Value} {t:TypeId} (h:Row w b cs t) (hn:b≠b') (c0 c1 c2 c3:Value):Row (Go.Proofs.YtibhbjbpodlpiaaGreat.put4 w b' c0 c1 c2 c3) b cs t:=
 h.keep ((Fr.refl (at' b') w).put4 (Or.inr rfl) c0 c1 c2 c3) hn
theorem Row.past5 {w:World} {b b':Nat} {cs:Array Value} {t:TypeId} (h:Row w b cs t) (hn:b≠b') (c0 c1 c2 c3 c4:Value):Row (Go.Proofs.YtibhbjbpodlpiaaGreat.put5 w b' c0 c1 c2 c3 c4) b cs t:=
 h.keep ((Fr.refl (at' b') w).put5 (Or.inr rfl) c0 c1 c2 c3 c4) hn
theorem db {w:World} {b:Nat} {cs:Array Value} {t:TypeId} (h:Row w b cs t) :
  w.frozen? ⟨b,0,none⟩=false∧w.frozen? ⟨b,1,none⟩=false∧w.frozen? ⟨b,2,none⟩=false∧w.frozen? ⟨b,3,none⟩=false:=
 ⟨h.frozen 0,h.frozen 1,h.frozen 2,h.frozen 3⟩
theorem bz {w:World} {b:Nat} {cs:Array Value} {t:TypeId} (h:Row w b cs t) :
  w.frozen? ⟨b,0,none⟩=false∧w.frozen? ⟨b,1,none⟩=false∧w.frozen? ⟨b,2,none⟩=false∧w.frozen? ⟨b,3,none⟩=false∧w.frozen? ⟨b,4,none⟩=false:=
 ⟨h.frozen 0,h.frozen 1,h.frozen 2,h.frozen 3,h.frozen 4⟩
theorem bl {w:World} {b:Nat} {c0 c1 c2 c3 c4:Value} {t:TypeId} (h:Row w b #[c0,c1,c2,c3,c4] t) :
  w.cell? ⟨b,0,none⟩=some c0∧w.cell? ⟨b,1,none⟩=some c1∧w.cell? ⟨b,2,none⟩=some c2∧w.cell? ⟨b,3,none⟩=some c3∧w.cell? ⟨b,4,none⟩=some c4:=
 ⟨h.cell 0,h.cell 1,h.cell 2,h.cell 3,h.cell 4⟩
theorem tu (w:World) (o:Obj):(w.alloc o).heap.size=w.heap.size+1:=by simp
theorem bq (w:World) (o:Obj) (cs:Array Value) (t:TypeId):Row ((w.alloc o).alloc (.cells cs t)) (w.heap.size+1) cs t:=by
 have:=ba (w.alloc o) cs t
 rwa [tu] at this
theorem IsRam.drew {w:World} {p bf nf:Nat} {bs:List UInt8} (h:IsRam w p bf nf bs):IsRam w.drew p bf nf bs:=⟨h.head,h.row,h.len,h.most,h.apart⟩
theorem IsRam.alloc {w:World} {p bf nf:Nat} {bs:List UInt8} (h:IsRam w p bf nf bs) (o:Obj):IsRam (w.alloc o) p bf nf bs:=h.keep ((Fr.refl bg w).alloc o) (fun h=>h) (fun h=>h)
end Go.Proofs.YtibhbjbpodlpiaaGreat
