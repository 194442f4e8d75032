/-
  Contracts over the translation. No statement is proved here.
-/
import Derived.Deep.RegionHeld3
import Derived.Laws.AppendOwnNone
import Derived.Test.YtibhbjbpodlpiaaGreatQJR
import Derived.Test.YtibhbjbpodlpiaaGreatShelf
set_option maxRecDepth 100000
set_option maxHeartbeats 8000000
namespace Go.Proofs.YtibhbjbpodlpiaaGreat
open Go.RowKit
open Go.Value renaming int → U, bool → β, pointer → π, tuple → τ
open Go.IntKind renaming i64 → κ, u32 → μ
open Go.Obj renaming cells → ω
open Go.Ending renaming returned → ρ
open Go.Proofs.Tryz renaming prog → pQ
section
open Go.RowKit Go.Sort Go.Shelf Go.Lib
def cmpI (x y:Int):Int:=if x<y then -1 else if y<x then 1 else 0
theorem xw (x:Int) (w:World):Calls pQ 155 #[U κ x] w fun e w'=>e=ρ (β false)∧w'=w:=by
 have t:(x != x)=false:=by simp
 go_enter Tryz.func155,Tryz.ntmps155
 go_wp2
 go_ret
 first | exact ⟨rfl,rfl⟩ | exact ⟨by rw[t],rfl⟩
theorem compare_any (x y:Int) (w:World):Calls pQ 133 #[U κ x,U κ y] w fun e w'=>e=ρ (U κ (cmpI x y))∧w'=w:=by
 unfold cmpI
 by_cases h1:x<y
 ·rw[if_pos h1]
  have u1:decide (x<y)=true:=decide_eq_true h1
  go_enter Tryz.func133,Tryz.ntmps133
  go_wp2_with (first | (go_at_call 155;refine(xw _ _).mono ?_;rintro e w1 ⟨rfl,rfl⟩))
  go_ret
  exact ⟨rfl,rfl⟩
 ·rw[if_neg h1]
  have u1:decide (x<y)=false:=decide_eq_false h1
  by_cases h2:y<x
  ·rw[if_pos h2]
   have u2:decide (y<x)=true:=decide_eq_true h2
   go_enter Tryz.func133,Tryz.ntmps133
   go_wp2_with (first | (go_at_call 155;refine(xw _ _).mono ?_;rintro e w1 ⟨rfl,rfl⟩))
   go_ret
   exact ⟨rfl,rfl⟩
  ·rw[if_neg h2]
   have u2:decide (y<x)=false:=decide_eq_false h2
   go_enter Tryz.func133,Tryz.ntmps133
   go_wp2_with (first | (go_at_call 155;refine(xw _ _).mono ?_;rintro e w1 ⟨rfl,rfl⟩))
   go_ret
   exact ⟨rfl,rfl⟩
def orI (a b:Int):Int:=if a≠0 then a else b
theorem or_any (g:Nat) (a b:Int) (w:World) (r:Row w g #[U κ a,U κ b] 3):Calls pQ 132 #[.slice (some ⟨g,0,none⟩) 2 2] w fun e w'=>e=ρ (U κ (orI a b))∧w'=w:=by
 unfold orI
 have c0:=r.cell 0
 have c1:=r.cell 1
 clear r
 by_cases ha:a=0
 ·subst ha
  rw[if_neg (by simp)]
  by_cases hb:b=0
  ·subst hb
   go_enter Tryz.func132,Tryz.ntmps132
   go_wp2_with fail
   refine wp_loop_rounds 3 ?_
   rw[rounds_succ]
   go_wp2_with fail
   rw[rounds_succ]
   go_wp2_with fail
   rw[rounds_succ]
   go_wp2_with fail
   go_ret
   exact ⟨rfl,rfl⟩
  ·have u:(b != 0)=true:=by simpa using hb
   go_enter Tryz.func132,Tryz.ntmps132
   go_wp2_with fail
   refine wp_loop_rounds 2 ?_
   rw[rounds_succ]
   go_wp2_with fail
   rw[rounds_succ]
   go_wp2_with fail
   go_ret
   exact ⟨rfl,rfl⟩
 ·rw[if_pos ha]
  have u:(a != 0)=true:=by simpa using ha
  go_enter Tryz.func132,Tryz.ntmps132
  go_wp2_with fail
  refine wp_loop_rounds 1 ?_
  rw[rounds_succ]
  go_wp2_with fail
  go_ret
  exact ⟨rfl,rfl⟩
def ru (x:Lr):List Value:=[U κ x.id,U κ x.p,β x.lv,β x.pe,β x.ac]
def cfL (x y:Lr):Int:=if x.ac≠y.ac then(if x.ac then -1 else 1) else orI (cmpI x.p y.p) (cmpI x.id y.id)
theorem lt_cf (x y:Lr):ltOf cfL x y=true ↔ ltr x y:=by
 unfold ltOf cfL ltr orI cmpI
 cases hx:x.ac <;> cases hy:y.ac <;> simp
 all_goals
  by_cases h1:x.p<y.p
  ·simp[h1]
  ·by_cases h2:y.p<x.p
   ·simp[h1,h2];omega
   ·by_cases h3:x.id<y.id
    ·simp[h1,h2,h3];omega
    ·by_cases h4:y.id<x.id
     ·simp[h1,h2,h3,h4]
     ·simp[h1,h2,h3,h4]
theorem xu (x y:Lr):ltOf cfL x y=false ↔ ¬ ltr x y:=by
 rw[←lt_cf]
 simp
theorem swo_cf:SWO (ltOf cfL) where
 irrefl x:=(xu x x).mpr (ltr_irr x)
 trans x y z h1 h2:=by
  rw[lt_cf] at *
  unfold ltr at *
  cases hx:x.ac <;> cases hy:y.ac <;> cases hz:z.ac <;> simp[hx,hy,hz] at * <;> omega
 ntrans x y z h1 h2:=by
  rw[xu] at *
  unfold ltr at *
  cases hx:x.ac <;> cases hy:y.ac <;> cases hz:z.ac <;> simp[hx,hy,hz] at * <;> omega
def Grows (W w':World):Prop:=∃ q os',w'=grow (W.drewN q) os'
theorem Grows.refl (W:World):Grows W W:=⟨0,#[],by rw[grow_empty];rfl⟩
theorem Grows.alloc {W w':World} (h:Grows W w') (o:Obj):Grows W (w'.alloc o):=by
 obtain ⟨q,os,rfl⟩:=h
 exact ⟨q,os ++ #[o],by rw[alloc_eq_grow,grow_grow]⟩
theorem Grows.drew {W w':World} (h:Grows W w'):Grows W w'.drew:=by
 obtain ⟨q,os,rfl⟩:=h
 exact ⟨q+1,os,rfl⟩
end
section
open Go.RowKit Go.Sort Go.Shelf Go.Lib
theorem w7 (w:World) (o:Obj) (cs:Array Value) (t:TypeId):Row ((w.alloc o).alloc (.cells cs t)) (w.heap.size+1) cs t:=by
 have:=ba (w.alloc o) cs t
 rwa [show(w.alloc o).heap.size=w.heap.size+1 by simp] at this
theorem order_same (i p i' p':Int) (l e l' e' a:Bool) (W:World):Calls pQ 98 #[.agg #[U κ i,U κ p,β l,β e,β a],.agg #[U κ i',U κ p',β l',β e',β a]] W fun e w'=>e=ρ (U κ (orI (cmpI p p') (cmpI i i')))∧Grows W w':=by
 have ga:=((Grows.refl W).alloc (ω #[U κ i,U κ p,β l,β e,β a] 132)).alloc (ω #[U κ i',U κ p',β l',β e',β a] 132)
 have r1:=(ba W #[U κ i,U κ p,β l,β e,β a] 132).alloc (ω #[U κ i',U κ p',β l',β e',β a] 132)
 have r2:=w7 W (ω #[U κ i,U κ p,β l,β e,β a] 132) #[U κ i',U κ p',β l',β e',β a] 132
 have u0:(a != a)=false:=by simp
 go_enter Tryz.func98,Tryz.ntmps98
 go_wp2_with fail
 generalize ((W.alloc (ω #[U κ i,U κ p,β l,β e,β a] 132)).alloc (ω #[U κ i',U κ p',β l',β e',β a] 132))=V at ga r1 r2 ⊢
 have c0:=r1.cell 0
 have c1:=r1.cell 1
 have d0:=r2.cell 0
 have d1:=r2.cell 1
 have HG:Hid (∀ u v:Int,Grows W (V.alloc (ω #[U κ u,U κ v] 3)).drew):=fun u v=>(ga.alloc _).drew
 clear r1 r2 ga
 go_region_held3 (fun w'=>w'.cell? ⟨W.heap.size,0,none⟩=some (U κ i)∧w'.cell? ⟨W.heap.size,1,none⟩=some (U κ p)∧w'.cell? ⟨W.heap.size+1,0,none⟩=some (U κ i')∧w'.cell? ⟨W.heap.size+1,1,none⟩=some (U κ p')) (first | with_reducible exact ⟨c0,c1,d0,d1⟩ | go_keep) (first | (go_at_call 133;refine(compare_any _ _ _).mono ?_;rintro e w1 ⟨rfl,rfl⟩) | (go_at_call 132;refine(or_any V.heap.size (cmpI p p') (cmpI i i') _ (Row.drew (ba V #[U κ (cmpI p p'),U κ (cmpI i i')] 3))).mono ?_;rintro e w1 ⟨rfl,rfl⟩))
 all_goals
  go_wp2_with fail
  go_ret
  exact ⟨rfl,HG.out _ _⟩
theorem order_ac (i p i' p':Int) (l e l' e':Bool) (W:World):Calls pQ 98 #[.agg #[U κ i,U κ p,β l,β e,β true],.agg #[U κ i',U κ p',β l',β e',β false]] W fun e w'=>e=ρ (U κ (-1))∧Grows W w':=by
 have ga:=((Grows.refl W).alloc (ω #[U κ i,U κ p,β l,β e,β true] 132)).alloc (ω #[U κ i',U κ p',β l',β e',β false] 132)
 go_enter Tryz.func98,Tryz.ntmps98
 go_wp2_with fail
 go_ret
 exact ⟨rfl,ga⟩
theorem order_pe (i p i' p':Int) (l e l' e':Bool) (W:World):Calls pQ 98 #[.agg #[U κ i,U κ p,β l,β e,β false],.agg #[U κ i',U κ p',β l',β e',β true]] W fun e w'=>e=ρ (U κ 1)∧Grows W w':=by
 have ga:=((Grows.refl W).alloc (ω #[U κ i,U κ p,β l,β e,β false] 132)).alloc (ω #[U κ i',U κ p',β l',β e',β true] 132)
 go_enter Tryz.func98,Tryz.ntmps98
 go_wp2_with fail
 go_ret
 exact ⟨rfl,ga⟩
theorem order_any (x y:Lr) (W:World):Calls pQ 98 #[.agg (ru x).toArray,.agg (ru y).toArray] W fun e w'=>e=ρ (U κ (cfL x y))∧Grows W w':=by
 obtain ⟨i,p,l,e,a⟩:=x
 obtain ⟨i',p',l',e',a'⟩:=y
 cases a <;> cases a'
 ·exact order_same i p i' p' l e l' e' false W
 ·exact order_pe i p i' p' l e l' e' W
 ·exact order_ac i p i' p' l e l' e' W
 ·exact order_same i p i' p' l e l' e' true W
theorem cmp_lays (blk off size:Nat) (w:World):CmpLays pQ 98 #[] ru 5 cfL blk off size w:=fun _ _ _ _ x y=>order_any x y _
end
section
open Go.RowKit Go.Sort Go.Shelf Go.Lib
theorem agg_lr (w:World):(isAgg 132).run pQ w=.ok true w:=by kernel_rfl
theorem sizeof_lr (w:World):(Go.sizeOf 132).run pQ w=.ok 5 w:=by kernel_rfl
theorem fr_sort (w:World) (g n:Nat) (d:Array Lr) (os:Array Obj):Fr (at' g) w (sortWorldK ru 5 w g 0 n d os):=by
 refine ⟨rfl,rfl,rfl,?_,fun k hk hn=>?_⟩
 ·show w.heap.size≤((w.heap.modify g (onCells (putCells id 0 (flatK ru 5 d)))) ++ os).size
  simp
 ·have hne:g≠k:=fun e=>hn e.symm
  show((w.heap.modify g (onCells (putCells id 0 (flatK ru 5 d)))) ++ os)[k]? = w.heap[k]?
  rw[Array.getElem?_append_left (by simpa using hk),Array.getElem?_modify,if_neg hne]
theorem row_sort {w:World} {g:Nat} {cs:Array Value} {t:TypeId} (h:Row w g cs t) (n:Nat) (d:Array Lr) (os:Array Obj):Row (sortWorldK ru 5 w g 0 n d os) g (putCells id 0 (flatK ru 5 d) cs) t:=by
 have h':w.heap[g]? = some (.cells cs t (0,0)):=h
 show((w.heap.modify g (onCells (putCells id 0 (flatK ru 5 d)))) ++ os)[g]? = _
 rw[Array.getElem?_append_left (by simpa using h.lt),Array.getElem?_modify,if_pos rfl,h']
 rfl
structure RecAt (cs:Array Value) (i:Nat) (x:Lr):Prop where
 c0:cs[i*5]? = some (U κ x.id)
 c1:cs[i*5+1]? = some (U κ x.p)
 c2:cs[i*5+2]? = some (β x.lv)
 c3:cs[i*5+3]? = some (β x.pe)
 c4:cs[i*5+4]? = some (β x.ac)
theorem flat_at (d:Array Lr) (i r:Nat) (hi:i<d.size) (hr:r<5):(flatK ru 5 d)[i*5+r]! = (ru d[i]!)[r]!:=by
 rw[get_flatK _ _ _ _ (by omega),show(i*5+r) / 5=i by omega,show(i*5+r)%5=r by omega]
theorem holds_of {w:World} {g:Nat} {cs:Array Value} {t:TypeId} (h:Row w g cs t) (d:Array Lr) (hd:∀ i,i<d.size→RecAt cs i d[i]!):HoldsK ru 5 w g 0 d:=by
 intro j hj
 rw[size_flatK] at hj
 refine ⟨?_,by rw[Nat.zero_add];exact h.frozen j⟩
 obtain ⟨i,r,hi,hr,rfl⟩:∃ i r,i<d.size∧r<5∧j=i*5+r:=⟨j / 5,j%5,by omega,by omega,by omega⟩
 rw[Nat.zero_add,h.cell,flat_at d i r hi hr]
 have q:=hd i hi
 match r,hr with
 | 0,_=>exact q.c0
 | 1,_=>exact q.c1
 | 2,_=>exact q.c2
 | 3,_=>exact q.c3
 | 4,_=>exact q.c4
theorem rec_put (cs:Array Value) (d:Array Lr) (hs:d.size*5≤cs.size) (i:Nat) (hi:i<d.size):RecAt (putCells id 0 (flatK ru 5 d) cs) i d[i]!:=by
 have q:∀ r,r<5→(putCells id 0 (flatK ru 5 d) cs)[i*5+r]? = some (ru d[i]!)[r]!:=fun r hr=>by
  have hlt:i*5+r<cs.size:=by omega
  unfold putCells
  rw[Array.getElem?_mapIdx,Array.getElem?_eq_getElem hlt,Option.map_some,if_pos (by rw[size_flatK];omega),Nat.sub_zero,flat_at d i r hi hr]
  rfl
 exact ⟨q 0 (by omega),q 1 (by omega),q 2 (by omega),q 3 (by omega),q 4 (by omega)⟩
theorem sort_any {w:World} {g cap:Nat} {cs:Array Value} {t:TypeId} (h:Row w g cs t) (d:Array Lr) (hd:∀ i,i<d.size→RecAt cs i d[i]!) (hs:d.size*5≤cs.size) (hn:d.size≤64) :
  Calls pQ 97 #[.slice (some ⟨g,0,none⟩) d.size cap,.func (.func 98) #[] #[]] w fun e w' =>
   e=ρ (τ #[])∧∃ (d':Array Lr) (cs':Array Value),d'.size=d.size∧d'.toList.Perm d.toList∧d'.toList.Pairwise (fun x y=>¬ ltr y x)∧Fr (at' g) w w'∧Row w' g cs' t∧cs'.size=cs.size∧∀ i,i<d'.size→RecAt cs' i d'[i]!:=by
 have eg:∀ args w,(callFunc 98 args).run pQ w=.ok (.enter 98 args) w:=enters_of Tryz.func98 (by kernel_rfl) rfl
 have hc:=AnyQ.slices_SortFunc Tryz.sortLr 5 agg_lr sizeof_lr ru (fun _=>rfl) (fun x v hv=>by simp[ru] at hv;rcases hv with rfl | rfl | rfl | rfl | rfl <;> rfl) cfL swo_cf 98 #[] g 0 cap d w eg (cmp_lays g 0 d.size w) (holds_of h d hd) h.lt (by omega)
 refine Calls.mono (show Calls pQ 97 _ _ _ from hc) ?_
 rintro e w' ⟨rfl,d',n,os,⟨p1,_,p3⟩,hsd,rfl⟩
 refine ⟨rfl,d',_,p1,?_,?_,fr_sort w g n d' os,row_sort h n d' os,by simp[putCells],fun i hi=>rec_put cs d' (by omega) i hi⟩
 ·have e1:d'.extract 0 d.size=d':=by rw[←p1];simp
  have e2:d.extract 0 d.size=d:=by simp
  rw[e1,e2] at p3
  exact p3
 ·rw[List.pairwise_iff_getElem]
  intro i j hi hj hij
  have:=hsd i j (by omega) hij (by simpa [p1] using hj)
  rw[xu] at this
  simp only[Array.length_toList] at hi hj
  simpa [hi,hj] using this
theorem sort_none (p:Option Addr) (cap:Nat) (fv:Value) (w:World):Calls pQ 97 #[.slice p 0 cap,fv] w fun e w'=>e=ρ (τ #[])∧w'=w:=
 AnyF.slices_SortFunc_none Tryz.sortLr p cap fv w
end
theorem jy {P:Program} {w:World} {ops:Array Oper} {rest:List Oper} {o:Oper} {a:Act} {Q:Exit→Act→World→Prop} (hgd:o.guard=none) (s x:Operand) (t:TypeId)
  (ho:o.op=.call { callee:=.builtin .append,args:=#[s,x],argTypes:=#[t,t] }) (vs vx:Value) (hs:a.eval s=vs) (hx:a.eval x=vx) (v':Value) (w':World)
  (hrun:(Builtin.append_ #[t,t] o.type #[vs,vx]).run P w=.ok v' w') (h:wpList P ops Q rest (a.put o.dst v') w'):wpList P ops Q (o :: rest) a w:=by
 refine wpList_plain hgd fun K hK=>?_
 unfold Oper.wp
 simp[execOp,ho,resolve,invoke,builtin,hs,hx,hrun,Result.andThen]
 exact hK _ _ h
def OwnK (e:TypeId) (k:Nat) (w:World) (B:Nat) (v:Value) (n:Nat) (L:List Value):Prop:=w.ownsRow B e k v n L∧(n=0→v=.slice none 0 0)
theorem ownk_nil (e:TypeId) (k:Nat) (w:World) (B:Nat):OwnK e k w B (.slice none 0 0) 0 []:=⟨⟨by simp,Or.inl ⟨rfl,rfl⟩⟩,fun _=>rfl⟩
theorem OwnK.at {e:TypeId} {k:Nat} {w w':World} {B:Nat} {v:Value} {n:Nat} {L:List Value} (h:OwnK e k w B v n L) (hk:∀ q,some q=v.ownBlock→q<w.heap.size→w'.heap[q]? = w.heap[q]?):OwnK e k w' B v n L:=by
 obtain ⟨⟨hl,h | ⟨g,cap,cur,hv,hb,hg,hc,hm,hs,ht⟩⟩,hn⟩:=h
 ·exact ⟨⟨hl,Or.inl h⟩,hn⟩
 ·exact ⟨⟨hl,Or.inr ⟨g,cap,cur,hv,hb,(hk g (by rw[hv];rfl) (Row.lt (show Row w g cur e from hg))).trans hg,hc,hm,hs,ht⟩⟩,hn⟩
theorem OwnK.keep0 {e:TypeId} {k:Nat} {w w':World} {B:Nat} {v:Value} {n:Nat} {L:List Value} (h:OwnK e k w B v n L) (f:Fr bg w w'):OwnK e k w' B v n L:=h.at fun q _ hl=>f.block q hl (fun h=>h)
theorem OwnK.high {e:TypeId} {k:Nat} {w:World} {B:Nat} {v:Value} {n:Nat} {L:List Value} (h:OwnK e k w B v n L) (q:Nat) (hq:some q=v.ownBlock):B≤q:=by
 obtain ⟨⟨_,h | ⟨g,cap,cur,hv,hb,_⟩⟩,_⟩:=h
 ·rw[h.1] at hq;simp[Value.ownBlock] at hq
 ·rw[hv] at hq;simp[Value.ownBlock] at hq;omega
theorem OwnK.row {e:TypeId} {k:Nat} {w:World} {B:Nat} {v:Value} {n:Nat} {L:List Value} (h:OwnK e k w B v n L) (hn:n≠0) :
  ∃ g cap cur,v=.slice (some ⟨g,0,none⟩) n cap∧B≤g∧Row w g cur e∧n≤cap∧cap≤maxLen∧cur.size=cap*k∧∀ (j:Nat) (x:Value),L[j]? = some x→cur[j]? = some x:=by
 obtain ⟨⟨hl,h | ⟨g,cap,cur,hv,hb,hg,hc,hm,hs,ht⟩⟩,_⟩:=h
 ·exact absurd h.2 hn
 ·refine ⟨g,cap,cur,hv,hb,hg,hc,hm,hs,fun j x hj=>?_⟩
  have:(cur.toList.take (n*k))[j]? = some x:=by rw[ht];exact hj
  rw[List.getElem?_take] at this
  split at this
  ·simpa using this
  ·simp at this
theorem Fr.ownK {e:TypeId} {k:Nat} {w w1 w2:World} {v:Value} {n:Nat} {L:List Value} (f:Fr bg w w1) (g:Fr (fun q=>some q=v.ownBlock) w1 w2) (o:OwnK e k w1 w.heap.size v n L):Fr bg w w2:=
 ⟨g.os.trans f.os,g.tape.trans f.tape,g.output.trans f.output,Nat.le_trans f.size g.size,fun i hi hn=>(g.block i (Nat.lt_of_lt_of_le hi f.size) (fun e=>by have:=o.high i e;omega)).trans (f.block i hi hn)⟩
theorem append_k {T e:TypeId} {k bytes:Nat} {z:Value} (hT:Tryz.prog.underlying T=some (.slice e)) (hi:(Tryz.prog.info? e).map (fun i=>(i.zero,i.size,i.bytes))=some (some z,k,bytes)) (hz:z.cells.size=k) (hk:0<k) (hb8:bytes≤1000)
  (w:World) (B:Nat) (a:Addr) (v:Value) (n:Nat) (L news:List Value) (hb:B≤w.heap.size) (ho:OwnK e k w B v n L) (hn:n<10000000) (hl:news.length=k) (hc:∀ j u,news[j]? = some u→w.cell? (a.add j)=some u) (h1:∀ u ∈ news,u.oneCell'=true) :
  ∃ v' w',(Builtin.append_ #[T,T] T #[v,.slice (some a) 1 1]).run pQ w=.ok v' w'∧Fr (fun q=>some q=v.ownBlock) w w'∧OwnK e k w' B v' (n+1) (L ++ news):=by
 obtain ⟨ho,_⟩:=ho
 cases hq:Tryz.prog.info? e with
 | none=>simp[hq] at hi
 | some i =>
  rw[hq] at hi
  simp only[Option.map_some,Option.some.injEq,Prod.mk.injEq] at hi
  obtain ⟨hz0,hs,hby⟩:=hi
  obtain ⟨v',w',g1,g2,g3,_⟩:=run_append_own (P:=pQ) (w:=w) B T T e i z k bytes hT hq hz0 hs hby hz hk v n L ho a 1 1 news (by omega) hc h1 (by simp only[maxLen];omega) (Nat.le_trans (Nat.mul_le_mul_left _ hb8) (by omega)) hb
  exact ⟨v',w',g1,nm g3,g2,fun h=>by omega⟩
def mh (L:List Lr):List Value:=L.flatMap ru
theorem flatV_append (L M:List Lr):mh (L ++ M)=mh L ++ mh M:=by simp[mh]
theorem flatV_one (x:Lr):mh [x]=ru x:=by simp[mh]
theorem flatV_at:∀ (L:List Lr) (i:Nat) (x:Lr),L[i]? = some x→∀ r,r<5→(mh L)[i*5+r]? = some (ru x)[r]!
 | y :: L,0,x,h,r,hr=>by
  simp at h
  subst h
  have:mh (y :: L)=ru y ++ mh L:=by simp[mh]
  rw[this,Nat.zero_mul,Nat.zero_add,List.getElem?_append_left (by simp[ru];omega)]
  match r,hr with
  | 0,_=>rfl
  | 1,_=>rfl
  | 2,_=>rfl
  | 3,_=>rfl
  | 4,_=>rfl
 | y :: L,i+1,x,h,r,hr=>by
  have:mh (y :: L)=ru y ++ mh L:=by simp[mh]
  have e:(ru y).length=5:=rfl
  rw[this,List.getElem?_append_right (by omega),e,show(i+1)*5+r-5=i*5+r by omega]
  exact flatV_at L i x (by simpa using h) r hr
 | [],i,x,h,_,_=>by simp at h
theorem rec_of {cur:Array Value} {L:List Lr} (hx:∀ (j:Nat) (x:Value),(mh L)[j]? = some x→cur[j]? = some x) (i:Nat) (x:Lr) (h:L[i]? = some x):RecAt cur i x:=by
 have q:=fun r hr=>hx _ _ (flatV_at L i x h r hr)
 exact ⟨q 0 (by omega),q 1 (by omega),q 2 (by omega),q 3 (by omega),q 4 (by omega)⟩
def LrS (w:World) (B:Nat) (v:Value) (L:List Lr):Prop:=
 (L=[]∧v=.slice none 0 0)∨∃ g cap cs,v=.slice (some ⟨g,0,none⟩) L.length cap∧B≤g∧L.length≤cap∧cap≤maxLen∧Row w g cs 132∧∀ i x,L[i]? = some x→RecAt cs i x
theorem LrS.keep {S:Nat→Prop} {w w':World} {B:Nat} {v:Value} {L:List Lr} (h:LrS w B v L) (f:Fr S w w') (hs:∀ k,B≤k→¬ S k):LrS w' B v L:=by
 rcases h with h | ⟨g,cap,cs,h1,hb,h2,h3,h4,h5⟩
 ·exact Or.inl h
 ·exact Or.inr ⟨g,cap,cs,h1,hb,h2,h3,h4.keep f (hs g hb),h5⟩
theorem LrS.keep0 {w w':World} {B:Nat} {v:Value} {L:List Lr} (h:LrS w B v L) (f:Fr bg w w'):LrS w' B v L:=h.keep f (fun _ _ h=>h)
theorem info_lr:(Tryz.prog.info? 132).map (fun i=>(i.zero,i.size,i.bytes))=some (some (.agg #[U κ 0,U κ 0,β false,β false,β false]),5,24):=by kernel_rfl
theorem tj (w:World) (B g:Nat) (v:Value) (L:List Lr) (x:Lr) (hb:B≤w.heap.size) (ho:OwnK 132 5 w B v L.length (mh L)) (hn:L.length<1000) (r:Row w g #[U κ x.id,U κ x.p,β x.lv,β x.pe,β x.ac] 132) :
  ∃ v' w',(Builtin.append_ #[129,129] 129 #[v,.slice (some ⟨g,0,none⟩) 1 1]).run pQ w=.ok v' w'∧Fr (fun q=>some q=v.ownBlock) w w'∧OwnK 132 5 w' B v' (L ++ [x]).length (mh (L ++ [x])):=by
 obtain ⟨v',w',h1,h2,h3⟩:=append_k (T:=129) Tryz.underlying129 info_lr rfl (by omega) (by omega) w B ⟨g,0,none⟩ v L.length (mh L) (ru x) hb ho (by omega) rfl (fun j u hu=>by
  rw[lh,Nat.zero_add,r.cell]
  match j,hu with
  | 0,hu=>simpa [ru] using hu
  | 1,hu=>simpa [ru] using hu
  | 2,hu=>simpa [ru] using hu
  | 3,hu=>simpa [ru] using hu
  | 4,hu=>simpa [ru] using hu
  | j+5,hu=>simp[ru] at hu) (fun u hu=>by simp[ru] at hu;rcases hu with rfl | rfl | rfl | rfl | rfl <;> rfl)
 refine ⟨v',w',h1,h2,?_⟩
 rw[flatV_append,flatV_one,List.length_append]
 exact h3
section
open Go.RowKit Go.Sort
theorem size_lr:(Tryz.prog.info? 132).map (·.size)=some 5:=by kernel_rfl
theorem ret_lr {fn:Func} {p:Tmp} {tmps:Array Value} {g:Nat} {cs:Array Value} {w:World} (h:fn.results=#[.cell p 132]) (hp:tmps.getD p undef=π (some ⟨g,0,none⟩)) (hr:Row w g cs 132) (hs:cs.size=5) :
  (results fn tmps).run pQ w=.ok (.agg cs) w:=
 results_cell_row h tmps w g _ cs (0,0) _ hp hr Tryz.underlying132 rfl (by rw[hs];exact size_lr)
theorem register_any (w:World) (B:Bk) (S:Vg) (h:IsVg w B S) (k:Nat) (hk:k<64) :
  Calls pQ 96 #[π (some ⟨B.b,0,none⟩),U κ (k:Int)] w fun e w'=>e=ρ (.agg (ru (reg S k)).toArray)∧Fr bg w w':=by
 have f0:=(Fr.refl bg w).alloc (ω #[U κ 0,U κ 0,β false,β false,β false] 132)
 have h0:=h.keep0 f0
 obtain ⟨c0,c1,c2,c3⟩:=h0.cells
 cases hp:S.pe k with
 | none =>
  have hL:=h0.pe.look_none hk hp
  have f1:=(Fr.refl bg (w.alloc (ω #[U κ 0,U κ 0,β false,β false,β false] 132))).alloc (ω #[U κ 0,β false] 110)
  have h1:=h0.keep0 f1
  obtain ⟨d0,d1,d2,d3⟩:=h1.cells
  cases ha:S.ac k with
  | none =>
   have hL':=h1.ac.look_none hk ha
   have hreg:reg S k=⟨k,0,false,false,false⟩:=by unfold reg;rw[ha];rw[hp]
   rw[hreg]
   have r2:=((ba w #[U κ (k:Int),U κ 0,β false,β false,β false] 132).alloc (ω #[U κ 0,β false] 110)).alloc (ω #[U κ 0,β false] 110)
   have f2:=(((Fr.refl bg w).alloc (ω #[U κ (k:Int),U κ 0,β false,β false,β false] 132)).alloc (ω #[U κ 0,β false] 110)).alloc (ω #[U κ 0,β false] 110)
   have HR:Hid (Row (((w.alloc (ω #[U κ (k:Int),U κ 0,β false,β false,β false] 132)).alloc (ω #[U κ 0,β false] 110)).alloc (ω #[U κ 0,β false] 110)) w.heap.size #[U κ (k:Int),U κ 0,β false,β false,β false] 132∧Fr bg w (((w.alloc (ω #[U κ (k:Int),U κ 0,β false,β false,β false] 132)).alloc (ω #[U κ 0,β false] 110)).alloc (ω #[U κ 0,β false] 110))):=⟨r2,f2⟩
   clear r2 f2 h h0 h1 f0 f1 hp ha
   go_enter Tryz.func96,Tryz.ntmps96
   go_wp2_with fail
   refine bodyPost_ret (ret_lr rfl rfl HR.out.1 rfl) rfl ?_
   exact ⟨rfl,HR.out.2⟩
  | some x =>
   obtain ⟨q,m⟩:=x
   have hL':=h1.ac.look_some hk ha
   have hreg:reg S k=⟨k,q,m,false,true⟩:=by unfold reg;rw[ha];rw[hp];rfl
   rw[hreg]
   have r2:=((ba w #[U κ (k:Int),U κ q,β m,β false,β true] 132).alloc (ω #[U κ q,β m] 110)).alloc (ω #[U κ q,β m] 110)
   have f2:=(((Fr.refl bg w).alloc (ω #[U κ (k:Int),U κ q,β m,β false,β true] 132)).alloc (ω #[U κ q,β m] 110)).alloc (ω #[U κ q,β m] 110)
   have HR:Hid (Row (((w.alloc (ω #[U κ (k:Int),U κ q,β m,β false,β true] 132)).alloc (ω #[U κ q,β m] 110)).alloc (ω #[U κ q,β m] 110)) w.heap.size #[U κ (k:Int),U κ q,β m,β false,β true] 132∧Fr bg w (((w.alloc (ω #[U κ (k:Int),U κ q,β m,β false,β true] 132)).alloc (ω #[U κ q,β m] 110)).alloc (ω #[U κ q,β m] 110))):=⟨r2,f2⟩
   clear r2 f2 h h0 h1 f0 f1 hp ha
   go_enter Tryz.func96,Tryz.ntmps96
   go_wp2_with fail
   refine bodyPost_ret (ret_lr rfl rfl HR.out.1 rfl) rfl ?_
   exact ⟨rfl,HR.out.2⟩
 | some y =>
  obtain ⟨p,l⟩:=y
  have hL:=h0.pe.look_some hk hp
  have f1:=(Fr.refl bg (w.alloc (ω #[U κ 0,U κ 0,β false,β false,β false] 132))).alloc (ω #[U κ p,β l] 110)
  have h1:=h0.keep0 f1
  obtain ⟨d0,d1,d2,d3⟩:=h1.cells
  cases ha:S.ac k with
  | none =>
   have hL':=h1.ac.look_none hk ha
   have hreg:reg S k=⟨k,p,l,true,false⟩:=by unfold reg;rw[ha];rw[hp]
   rw[hreg]
   have r2:=((ba w #[U κ (k:Int),U κ p,β l,β true,β false] 132).alloc (ω #[U κ p,β l] 110)).alloc (ω #[U κ 0,β false] 110)
   have f2:=(((Fr.refl bg w).alloc (ω #[U κ (k:Int),U κ p,β l,β true,β false] 132)).alloc (ω #[U κ p,β l] 110)).alloc (ω #[U κ 0,β false] 110)
   have HR:Hid (Row (((w.alloc (ω #[U κ (k:Int),U κ p,β l,β true,β false] 132)).alloc (ω #[U κ p,β l] 110)).alloc (ω #[U κ 0,β false] 110)) w.heap.size #[U κ (k:Int),U κ p,β l,β true,β false] 132∧Fr bg w (((w.alloc (ω #[U κ (k:Int),U κ p,β l,β true,β false] 132)).alloc (ω #[U κ p,β l] 110)).alloc (ω #[U κ 0,β false] 110))):=⟨r2,f2⟩
   clear r2 f2 h h0 h1 f0 f1 hp ha
   go_enter Tryz.func96,Tryz.ntmps96
   go_wp2_with fail
   refine bodyPost_ret (ret_lr rfl rfl HR.out.1 rfl) rfl ?_
   exact ⟨rfl,HR.out.2⟩
  | some x =>
   obtain ⟨q,m⟩:=x
   have hL':=h1.ac.look_some hk ha
   have hreg:reg S k=⟨k,q,m,true,true⟩:=by unfold reg;rw[ha];rw[hp];rfl
   rw[hreg]
   have r2:=((ba w #[U κ (k:Int),U κ q,β m,β true,β true] 132).alloc (ω #[U κ q,β m] 110)).alloc (ω #[U κ q,β m] 110)
   have f2:=(((Fr.refl bg w).alloc (ω #[U κ (k:Int),U κ q,β m,β true,β true] 132)).alloc (ω #[U κ q,β m] 110)).alloc (ω #[U κ q,β m] 110)
   have HR:Hid (Row (((w.alloc (ω #[U κ (k:Int),U κ q,β m,β true,β true] 132)).alloc (ω #[U κ q,β m] 110)).alloc (ω #[U κ q,β m] 110)) w.heap.size #[U κ (k:Int),U κ q,β m,β true,β true] 132∧Fr bg w (((w.alloc (ω #[U κ (k:Int),U κ q,β m,β true,β true] 132)).alloc (ω #[U κ q,β m] 110)).alloc (ω #[U κ q,β m] 110))):=⟨r2,f2⟩
   clear r2 f2 h h0 h1 f0 f1 hp ha
   go_enter Tryz.func96,Tryz.ntmps96
   go_wp2_with fail
   refine bodyPost_ret (ret_lr rfl rfl HR.out.1 rfl) rfl ?_
   exact ⟨rfl,HR.out.2⟩
theorem all_any (w:World) (B:Bk) (S:Vg) (h:IsVg w B S) :
  Calls pQ 46 #[π (some ⟨B.b,0,none⟩)] w fun e w'=>∃ v,e=.returned v∧LrS w' w.heap.size v (allL S)∧Fr bg w w':=by
 have HB0:Hid (∀ q,B.s q→q<w.heap.size):=fun q hq=>h.lt q hq
 go_enter Tryz.func46,Tryz.ntmps46
 go_wp2_with fail
 go_loopw [3,6] (fun v i wr=>∃ k:Nat,k≤64∧i=U κ k∧OwnK 132 5 wr w.heap.size v (kq S k).length (mh (kq S k))∧Fr bg w wr∧IsVg wr B S) (fun _ i _=>64-(intOf i).toNat)
 case atStart=>exact ⟨0,by omega,rfl,ownk_nil _ _ _ _,Fr.refl _ _,h⟩
 case round =>
  clear h
  obtain ⟨k,hk,rfl,hO,fk,hT⟩:=hrel
  by_cases hlt:k<64
  ·have hreg:=register_any wr B S hT k hlt
   have hpe:=reg_pe S k
   have hac:=reg_ac S k
   have HL:Hid ((kq S (k+1)=kq S k ++ (if here S k then [reg S k] else []))∧here S k=((reg S k).pe || (reg S k).ac)):=⟨rfl,by rw[hpe,hac];rfl⟩
   have HN:Hid ((kq S k).length<1000):=by have:=len_base S k;show _<_;omega
   clear hpe hac
   obtain ⟨x,hx⟩:∃ x,x=reg S k:=⟨_,rfl⟩
   rw[←hx] at hreg HL
   obtain ⟨xi,xp,xl,xe,xa⟩:=x
   replace hreg:Calls pQ 96 #[π (some ⟨B.b,0,none⟩),U κ (k:Int)] wr fun e w'=>e=ρ (.agg #[U κ xi,U κ xp,β xl,β xe,β xa])∧Fr bg wr w':=hreg
   go_wp2_with fail
   refine hreg.mono ?_
   rintro e w1 ⟨rfl,f1⟩
   clear hreg hx
   have f2:=f1.alloc (ω #[U κ xi,U κ xp,β xl,β xe,β xa] 132)
   have r2:=ba w1 #[U κ xi,U κ xp,β xl,β xe,β xa] 132
   cases hh:(xe || xa) with
   | false =>
    obtain ⟨rfl,rfl⟩:xe=false∧xa=false:=by simpa using hh
    have HB:Hid (kq S (k+1)=kq S k):=by show _=_;rw[HL.out.1,HL.out.2];simp
    go_wp2_with fail
    go_roundw
    case rel=>exact ⟨k+1,by omega,by go_num,by rw[HB.out];exact hO.keep0 f2,fk.trans f2,hT.keep0 f2⟩
    case measure=>simp[intOf];omega
   | true =>
    have hcs:xe=true∨(xe=false∧xa=true):=by cases xe <;> cases xa <;> simp at hh ⊢
    clear hh
    rcases hcs with rfl | ⟨rfl,rfl⟩
    ·have HB:Hid (kq S (k+1)=kq S k ++ [⟨xi,xp,xl,true,xa⟩]):=by show _=_;rw[HL.out.1,HL.out.2];simp
     have f3:=f2.alloc (ω #[U κ xi,U κ xp,β xl,β true,β xa] 132)
     have r3:=w7 w1 (ω #[U κ xi,U κ xp,β xl,β true,β xa] 132) #[U κ xi,U κ xp,β xl,β true,β xa] 132
     have o3:=hO.keep0 f3
     obtain ⟨v',w4,hrun,f4,o4⟩:=tj _ w.heap.size (w1.heap.size+1) u3 (kq S k) ⟨xi,xp,xl,true,xa⟩ (Nat.le_trans fk.size f3.size) o3 HN.out r3
     have F4:=Fr.ownK (fk.trans f3) f4 o3
     have T4:IsVg w4 B S:=(hT.keep0 f3).keep f4 (fun q hq e=>by have:=o3.high q e;have:=HB0.out q hq;omega)
     clear f4 o3 hO fk f1 f2 f3 hT r3
     go_wp2_with (first | (at_builtin;refine jy rfl _ _ 129 rfl _ _ rfl rfl _ _ hrun ?_))
     go_roundw
     case rel=>exact ⟨k+1,by omega,by go_num,by rw[HB.out];exact o4,F4,T4⟩
     case measure=>simp[intOf];omega
    ·have HB:Hid (kq S (k+1)=kq S k ++ [⟨xi,xp,xl,false,true⟩]):=by show _=_;rw[HL.out.1,HL.out.2];simp
     have f3:=f2.alloc (ω #[U κ xi,U κ xp,β xl,β false,β true] 132)
     have r3:=w7 w1 (ω #[U κ xi,U κ xp,β xl,β false,β true] 132) #[U κ xi,U κ xp,β xl,β false,β true] 132
     have o3:=hO.keep0 f3
     obtain ⟨v',w4,hrun,f4,o4⟩:=tj _ w.heap.size (w1.heap.size+1) u3 (kq S k) ⟨xi,xp,xl,false,true⟩ (Nat.le_trans fk.size f3.size) o3 HN.out r3
     have F4:=Fr.ownK (fk.trans f3) f4 o3
     have T4:IsVg w4 B S:=(hT.keep0 f3).keep f4 (fun q hq e=>by have:=o3.high q e;have:=HB0.out q hq;omega)
     clear f4 o3 hO fk f1 f2 f3 hT r3
     go_wp2_with (first | (at_builtin;refine jy rfl _ _ 129 rfl _ _ rfl rfl _ _ hrun ?_))
     go_roundw
     case rel=>exact ⟨k+1,by omega,by go_num,by rw[HB.out];exact o4,F4,T4⟩
     case measure=>simp[intOf];omega
  ·obtain rfl:k=64:=by omega
   have hg:=hT.good
   have hl64:=len_base S 64
   by_cases hn:(kq S 64).length=0
   ·obtain rfl:=hO.2 hn
    have he:allL S=[]:=by
     have hb:kq S 64=[]:=List.length_eq_zero_iff.mp hn
     rw[←tn hg (l:=[]) (by rw[hb]) List.Pairwise.nil]
    have HE:Hid (allL S=[]):=he
    clear hO hn he hl64 hg
    go_wp2_with fail
    refine(sort_none _ _ _ _).mono ?_
    rintro e w1 ⟨rfl,rfl⟩
    go_wp2_with fail
    go_ret
    exact ⟨_,rfl,Or.inl ⟨HE.out,rfl⟩,fk⟩
   ·obtain ⟨g,cap,cur,rfl,hb,hr,hc,hm,hcs,hx⟩:=hO.row hn
    have hd:∀ i,i<(kq S 64).toArray.size→RecAt cur i (kq S 64).toArray[i]!:=fun i hi=>rec_of hx i _ (by
     simp only[List.size_toArray] at hi
     simp[hi])
    have hs:=sort_any (cap:=cap) hr (kq S 64).toArray hd (by simp only[List.size_toArray];omega) (by simpa using hl64)
    simp only[List.size_toArray] at hs
    have HC:Hid ((kq S 64).length≤cap∧cap≤maxLen∧v_Good S):=⟨hc,hm,hg⟩
    clear hO hn hl64 hg hr hc hm hcs hx hd
    go_wp2_with fail
    refine hs.mono ?_
    rintro e w1 ⟨rfl,d',cs',p1,p2,p3,f1,r1,_,q1⟩
    clear hs
    have e1:d'.toList=allL S:=tn HC.out.2.2 p2 p3
    have e2:(allL S).length=(kq S 64).length:=by rw[←e1];simpa using p1
    have HR:Hid (LrS w1 w.heap.size (.slice (some ⟨g,0,none⟩) ((kq S 64).length:Nat) cap) (allL S)):=Or.inr ⟨g,cap,cs',by rw[e2],hb,by rw[e2];exact HC.out.1,HC.out.2.1,r1,fun i x hi=>by
     rw[←e1] at hi
     have hlt:i<d'.size:=by
      rcases Nat.lt_or_ge i d'.size with h' | h'
      ·exact h'
      ·rw[List.getElem?_eq_none (by simpa using h')] at hi;cases hi
     have:=q1 i hlt
     rwa [show d'[i]! = x from by
      rw[List.getElem?_eq_getElem (by simpa using hlt)] at hi
      simp only[Option.some.injEq] at hi
      rw[←hi]
      simp[hlt]] at this⟩
    have F1:=fk.newer f1 hb
    clear e1 e2 p1 p2 p3 q1 r1 f1 fk
    go_wp2_with fail
    go_ret
    exact ⟨_,rfl,HR.out,F1⟩
end
theorem inA_len (S:Vg) (p n:Nat):(inA S p n).length≤n:=by
 induction n with
 | zero=>simp[inA]
 | succ k ih =>
  simp only[inA,List.length_append]
  cases S.ac k with
  | none=>simp;omega
  | some q=>simp only;split <;> simp <;> omega
theorem inP_len (S:Vg) (p n:Nat):(q7 S p n).length≤n:=by
 induction n with
 | zero=>simp[q7]
 | succ k ih =>
  simp only[q7,List.length_append]
  split
  ·split <;> simp <;> omega
  ·simp;omega
theorem pre_len {S:Vg} (g:v_Good S):(∀ k L,outA S k=L→k≤256→L.length≤500)∧(∀ L0 k0,outA S k0=L0→k0=256→∀ k L,L0 ++ outP S k=L→k≤256→L.length≤500):=by
 have h:=len_all g
 have ha:(outA S 256).length+(outP S 256).length≤64:=by simpa [allL] using h
 have ma:∀ j k,k≤j→(outA S k).length≤(outA S j).length:=fun j=>by
  induction j with
  | zero =>
   intro k hk
   obtain rfl:k=0:=by omega
   exact Nat.le_refl _
  | succ j ih =>
   intro k hk
   by_cases e:k=j+1
   ·rw[e];exact Nat.le_refl _
   ·have:=ih k (by omega);simp only[outA,List.length_append];omega
 have mp:∀ j k,k≤j→(outP S k).length≤(outP S j).length:=fun j=>by
  induction j with
  | zero =>
   intro k hk
   obtain rfl:k=0:=by omega
   exact Nat.le_refl _
  | succ j ih =>
   intro k hk
   by_cases e:k=j+1
   ·rw[e];exact Nat.le_refl _
   ·have:=ih k (by omega);simp only[outP,List.length_append];omega
 refine ⟨fun k L hL hk=>?_,fun L0 k0 h0 e0 k L hL hk=>?_⟩
 ·rw[←hL];have:=ma 256 k hk;omega
 ·rw[←hL,←h0,e0,List.length_append];have:=mp 256 k hk;omega
theorem rall_any (w:World) (b:Nat) (T:Nat→One) (S:Vg) (hT:IsRt w b T S) (hR:Rel T S) (hg:v_Good S) :
  Calls pQ 47 #[π (some ⟨b,0,none⟩)] w fun e w'=>∃ v,e=.returned v∧LrS w' w.heap.size v (allL S)∧Fr bg w w':=by
 have HT:Hid (IsRt w b T S∧Rel T S∧v_Good S):=⟨hT,hR,hg⟩
 have HSL:Hid (∀ k L,outA S k=L→k≤256→L.length≤500):=(pre_len hg).1
 have HSP:Hid (∀ L0 k0,outA S k0=L0→k0=256→∀ k L,L0 ++ outP S k=L→k≤256→L.length≤500):=(pre_len hg).2
 clear hT hR hg
 go_enter Tryz.func47,Tryz.ntmps47
 go_wp2_with fail
 go_loopw [3,4] (fun v i wr=>∃ (k:Nat) (L:List Lr),k≤256∧i=U κ k∧outA S k=L∧OwnK 132 5 wr w.heap.size v L.length (mh L)∧Fr bg w wr) (fun _ i _=>256-(intOf i).toNat)
 case atStart=>exact ⟨0,[],by omega,rfl,rfl,ownk_nil _ _ _ _,Fr.refl _ _⟩
 case round =>
  obtain ⟨k,L,hk,rfl,hL,hO,fk⟩:=hrel
  have HL:Hid (outA S k=L):=hL
  clear hL
  by_cases hlt:k<256
  ·have HLEN:Hid (L.length≤500):=HSL.out k L HL.out hk
   have uk1:decide ((k:Int)<256)=true:=decide_eq_true (by omega)
   have uk2:decide (k<256)=true:=decide_eq_true hlt
   go_wp2_with fail
   obtain ⟨w2,rfl⟩:∃ w2,w2=wr:=⟨wr,rfl⟩
   go_loopw [3,5] (fun v i wr=>∃ (m:Nat) (M:List Lr),m≤64∧i=U κ m∧inA S k m=M∧OwnK 132 5 wr w.heap.size v (L ++ M).length (mh (L ++ M))∧Fr bg w wr) (fun _ i _=>64-(intOf i).toNat)
   case atStart=>exact ⟨0,[],by omega,rfl,rfl,by simpa using hO,fk⟩
   case round =>
    clear hO fk
    obtain ⟨m,M,hm,rfl,hM,hO,fm⟩:=hrel
    have HM:Hid (inA S k m=M):=hM
    have HML:Hid (M.length≤64):=by show _≤_;rw[←hM];exact Nat.le_trans (inA_len S k m) hm
    clear hM
    by_cases hlt2:m<64
    ·obtain ⟨c0,c1,c2,c3,c4,c5,c6⟩:=(HT.out.1.keep fm (fun h=>h)).cells hlt2
     have hpe:=HT.out.2.1.pe m hlt2
     have hac:=HT.out.2.1.ac m hlt2
     have HS:Hid (inA S k (m+1)=inA S k m ++ (match S.ac m with
      | some (q,_)=>if q=(k:Int) then [reg S m] else []
      | none=>[])):=rfl
     have i1:0≤(m:Int)∧(m:Int)<64:=by omega
     have um1:decide ((m:Int)<64)=true:=decide_eq_true (by omega)
     have um2:decide (m<64)=true:=decide_eq_true hlt2
     generalize T m=tm at *
     obtain ⟨off,pe,ac,p,a,lv,fl⟩:=tm
     dsimp only at *
     by_cases hit:ac=true∧a=(k:Int)
     ·have HQ:Hid (inA S k (m+1)=M ++ [(⟨(m:Int),(k:Int),fl,pe,true⟩:Lr)]):=by
       show _=_
       rw[HS.out,HM.out,hac]
       obtain ⟨rfl,rfl⟩:=hit
       simp only[if_true]
       congr 2
       unfold reg;rw[hac,hpe];cases pe <;> rfl
      obtain ⟨rfl,rfl⟩:=hit
      have f1:=(Fr.refl bg wr).alloc (ω #[β off,β pe,β true,U κ p,U κ (k:Int),β lv,β fl] 117)
      have f2:=f1.alloc (ω #[U κ (m:Int),U κ (k:Int),β fl,β pe,β true] 132)
      have r2:=w7 wr (ω #[β off,β pe,β true,U κ p,U κ (k:Int),β lv,β fl] 117) #[U κ (m:Int),U κ (k:Int),β fl,β pe,β true] 132
      have o2:=hO.keep0 f2
      have HB:Hid ((L ++ M).length<1000):=by show _<_;rw[List.length_append];have:=HLEN.out;have:=HML.out;omega
      obtain ⟨v',w4,hrun,f4,o4⟩:=tj _ w.heap.size (wr.heap.size+1) u3 (L ++ M) (⟨(m:Int),(k:Int),fl,pe,true⟩:Lr) (Nat.le_trans fm.size f2.size) o2 HB.out r2
      have F4:=Fr.ownK (fm.trans f2) f4 o2
      have HO:Hid (OwnK 132 5 w4 w.heap.size v' (L ++ (M ++ [(⟨(m:Int),(k:Int),fl,pe,true⟩:Lr)])).length (mh (L ++ (M ++ [(⟨(m:Int),(k:Int),fl,pe,true⟩:Lr)])))):=by
       show OwnK _ _ _ _ _ _ _
       rw[←List.append_assoc]
       exact o4
      clear f4 o4 o2 hO fm f1 f2 r2 hpe hac
      go_wp2_with (first | (at_builtin;refine jy rfl _ _ 129 rfl _ _ rfl rfl _ _ hrun ?_))
      go_roundw
      case rel=>exact ⟨m+1,M ++ [(⟨(m:Int),(k:Int),fl,pe,true⟩:Lr)],by omega,by go_num,HQ.out,HO.out,F4⟩
      case measure=>simp[intOf];omega
     ·have HQ:Hid (inA S k (m+1)=M):=by
       show _=_
       rw[HS.out,HM.out,hac]
       cases ac with
       | false=>simp
       | true=>have:¬ a=(k:Int):=fun e=>hit ⟨rfl,e⟩;simp[this]
      have f1:=(Fr.refl bg wr).alloc (ω #[β off,β pe,β ac,U κ p,U κ a,β lv,β fl] 117)
      have o1:=hO.keep0 f1
      have F1:=fm.trans f1
      have hcs:ac=false∨(ac=true∧(a == (k:Int))=false):=by
       cases ac with | false=>exact Or.inl rfl | true=>exact Or.inr ⟨rfl,by simp;exact fun e=>hit ⟨rfl,e⟩⟩
      clear hit hpe hac hO fm f1
      rcases hcs with rfl | ⟨rfl,u9⟩
      all_goals
       go_wp2_with fail
       go_roundw
       case rel=>exact ⟨m+1,M,by omega,by go_num,HQ.out,o1,F1⟩
       case measure=>simp[intOf];omega
    ·have HQ:Hid (outA S (k+1)=L ++ M):=by
      show _=_
      have e:m=64:=by omega
      rw[←HL.out,←HM.out,e]
      rfl
     clear HM
     go_wp2_with fail
     go_roundw
     case rel=>exact ⟨k+1,L ++ M,by omega,by go_num,HQ.out,hO,fm⟩
     case measure=>simp[intOf];omega
  ·have HK0:Hid (k=256):=by show _=_;omega
   obtain ⟨L0,hL0⟩:∃ L0,L0=L:=⟨_,rfl⟩
   obtain ⟨k0,hk0⟩:∃ k0,k0=k:=⟨_,rfl⟩
   have H0:Hid (outA S k0=L0∧k0=256):=⟨by rw[hL0,hk0];exact HL.out,by rw[hk0];exact HK0.out⟩
   have HE0:Hid (L0 ++ outP S 0=L):=by show _=_;rw[hL0];simp[outP]
   clear HL HK0 hL0 hk0
   go_wp2_with fail
   obtain ⟨w3,rfl⟩:∃ w3,w3=wr:=⟨wr,rfl⟩
   go_loopw [3,7] (fun v i wr=>∃ (k:Nat) (L:List Lr),k≤256∧i=U κ k∧L0 ++ outP S k=L∧OwnK 132 5 wr w.heap.size v L.length (mh L)∧Fr bg w wr) (fun _ i _=>256-(intOf i).toNat)
   case atStart=>exact ⟨0,L,by omega,rfl,HE0.out,hO,fk⟩
   case round =>
    clear HE0 hO fk hk
    obtain ⟨k,L,hk,rfl,hL,hO,fk⟩:=hrel
    have HL:Hid (L0 ++ outP S k=L):=hL
    clear hL
    by_cases hlt:k<256
    ·have HLEN:Hid (L.length≤500):=HSP.out L0 k0 H0.out.1 H0.out.2 k L HL.out hk
     have uk1:decide ((k:Int)<256)=true:=decide_eq_true (by omega)
     have uk2:decide (k<256)=true:=decide_eq_true hlt
     go_wp2_with fail
     obtain ⟨w2,rfl⟩:∃ w2,w2=wr:=⟨wr,rfl⟩
     go_loopw [3,8] (fun v i wr=>∃ (m:Nat) (M:List Lr),m≤64∧i=U κ m∧q7 S k m=M∧OwnK 132 5 wr w.heap.size v (L ++ M).length (mh (L ++ M))∧Fr bg w wr) (fun _ i _=>64-(intOf i).toNat)
     case atStart=>exact ⟨0,[],by omega,rfl,rfl,by simpa using hO,fk⟩
     case round =>
      clear hO fk
      obtain ⟨m,M,hm,rfl,hM,hO,fm⟩:=hrel
      have HM:Hid (q7 S k m=M):=hM
      have HML:Hid (M.length≤64):=by show _≤_;rw[←hM];exact Nat.le_trans (inP_len S k m) hm
      clear hM
      by_cases hlt2:m<64
      ·obtain ⟨c0,c1,c2,c3,c4,c5,c6⟩:=(HT.out.1.keep fm (fun h=>h)).cells hlt2
       have hpe:=HT.out.2.1.pe m hlt2
       have hac:=HT.out.2.1.ac m hlt2
       have HS:Hid (q7 S k (m+1)=q7 S k m ++ (match S.ac m,S.pe m with
        | none,some (q,_)=>if q=(k:Int) then [reg S m] else []
        | _,_=>[])):=rfl
       have i1:0≤(m:Int)∧(m:Int)<64:=by omega
       have um1:decide ((m:Int)<64)=true:=decide_eq_true (by omega)
       have um2:decide (m<64)=true:=decide_eq_true hlt2
       generalize T m=tm at *
       obtain ⟨off,pe,ac,p,a,lv,fl⟩:=tm
       dsimp only at *
       by_cases hit:ac=false∧pe=true∧p=(k:Int)
       ·have HQ:Hid (q7 S k (m+1)=M ++ [(⟨(m:Int),(k:Int),lv,true,false⟩:Lr)]):=by
         show _=_
         rw[HS.out,HM.out,hac,hpe]
         obtain ⟨rfl,rfl,rfl⟩:=hit
         simp only[if_true,Bool.false_eq_true,if_false]
         congr 2
         unfold reg;rw[hac,hpe];rfl
        obtain ⟨rfl,rfl,rfl⟩:=hit
        have f1:=(Fr.refl bg wr).alloc (ω #[β off,β true,β false,U κ (k:Int),U κ a,β lv,β fl] 117)
        have f2:=f1.alloc (ω #[U κ (m:Int),U κ (k:Int),β lv,β true,β false] 132)
        have r2:=w7 wr (ω #[β off,β true,β false,U κ (k:Int),U κ a,β lv,β fl] 117) #[U κ (m:Int),U κ (k:Int),β lv,β true,β false] 132
        have o2:=hO.keep0 f2
        have HB:Hid ((L ++ M).length<1000):=by show _<_;rw[List.length_append];have:=HLEN.out;have:=HML.out;omega
        obtain ⟨v',w4,hrun,f4,o4⟩:=tj _ w.heap.size (wr.heap.size+1) u3 (L ++ M) (⟨(m:Int),(k:Int),lv,true,false⟩:Lr) (Nat.le_trans fm.size f2.size) o2 HB.out r2
        have F4:=Fr.ownK (fm.trans f2) f4 o2
        have HO:Hid (OwnK 132 5 w4 w.heap.size v' (L ++ (M ++ [(⟨(m:Int),(k:Int),lv,true,false⟩:Lr)])).length (mh (L ++ (M ++ [(⟨(m:Int),(k:Int),lv,true,false⟩:Lr)])))):=by
         show OwnK _ _ _ _ _ _ _
         rw[←List.append_assoc]
         exact o4
        clear f4 o4 o2 hO fm f1 f2 r2 hpe hac
        go_wp2_with (first | (at_builtin;refine jy rfl _ _ 129 rfl _ _ rfl rfl _ _ hrun ?_))
        go_roundw
        case rel=>exact ⟨m+1,M ++ [(⟨(m:Int),(k:Int),lv,true,false⟩:Lr)],by omega,by go_num,HQ.out,HO.out,F4⟩
        case measure=>simp[intOf];omega
       ·have HQ:Hid (q7 S k (m+1)=M):=by
         show _=_
         rw[HS.out,HM.out,hac,hpe]
         cases ac with
         | true=>simp
         | false=>cases pe with | false=>simp | true=>(have:¬ p=(k:Int):=fun e=>hit ⟨rfl,rfl,e⟩);simp[this]
        have f1:=(Fr.refl bg wr).alloc (ω #[β off,β pe,β ac,U κ p,U κ a,β lv,β fl] 117)
        have o1:=hO.keep0 f1
        have F1:=fm.trans f1
        have hcs:ac=true∨(ac=false∧pe=false)∨(ac=false∧pe=true∧(p == (k:Int))=false):=by
         cases ac with | true=>exact Or.inl rfl | false=>cases pe with | false=>exact Or.inr (Or.inl ⟨rfl,rfl⟩) | true=>exact Or.inr (Or.inr ⟨rfl,rfl,by simp;exact fun e=>hit ⟨rfl,rfl,e⟩⟩)
        clear hit hpe hac hO fm f1
        rcases hcs with rfl | ⟨rfl,rfl⟩ | ⟨rfl,rfl,u9⟩
        all_goals
         go_wp2_with fail
         go_roundw
         case rel=>exact ⟨m+1,M,by omega,by go_num,HQ.out,o1,F1⟩
         case measure=>simp[intOf];omega
      ·have HQ:Hid (L0 ++ outP S (k+1)=L ++ M):=by
        show _=_
        have e:m=64:=by omega
        rw[←HL.out,←HM.out,e]
        simp only[outP,List.append_assoc]
       clear HM
       go_wp2_with fail
       go_roundw
       case rel=>exact ⟨k+1,L ++ M,by omega,by go_num,HQ.out,hO,fm⟩
       case measure=>simp[intOf];omega
    ·have HE:Hid (L=allL S):=by
      show _=_
      have e:k=256:=by omega
      rw[←HL.out,e,←H0.out.1,H0.out.2]
      rfl
     clear HL H0
     go_wp2_with fail
     go_ret
     refine ⟨_,rfl,?_,fk⟩
     rw[←HE.out]
     by_cases hn:L.length=0
     ·obtain rfl:=hO.2 hn
      exact Or.inl ⟨List.length_eq_zero_iff.mp hn,rfl⟩
     ·obtain ⟨g,cap,cur,rfl,hb,hr,hc,hm,hcs,hx⟩:=hO.row hn
      exact Or.inr ⟨g,cap,cur,rfl,hb,hc,hm,hr,fun i x hi=>rec_of hx i x hi⟩
end Go.Proofs.YtibhbjbpodlpiaaGreat
