/-
  Contracts over the translation. No statement is proved here.
-/
import Derived.Shelf.Abstract
import Derived.Test.YtibhbjbpodlpiaaGreatQJD
set_option maxRecDepth 100000
set_option maxHeartbeats 8000000
namespace Go.Proofs.YtibhbjbpodlpiaaGreat
open Go.RowKit
open Go.Value renaming int → U, bool → β, pointer → π, tuple → τ
open Go.IntKind renaming i64 → κ, u32 → μ
open Go.Obj renaming cells → ω
open Go.Ending renaming returned → ρ
open Go.Proofs.Tryz renaming prog → pQ
def Tests (fn:Nat) (caps:Array Value) (g:Ln→Bool) (b:Nat) (w:World):Prop:=
 (∀ (args:Array Value) (w1:World),(callFunc fn args).run pQ w1=.ok (.enter fn args) w1) ∧
 ∀ (w1:World) (l:Ln),Fr (at' b) w w1→Calls pQ fn (#[.agg #[U κ l.v,U κ l.a,U κ l.p,U κ l.f,U κ l.r]] ++ caps) w1 fun e w2=>e=ρ (β (g l))∧Fr bg w1 w2
theorem forget_any (w:World) (b:Nat) (T:Nat→Ln) (fo mi:Int) (h:jj w b T fo mi) (fn:Nat) (caps:Array Value) (g:Ln→Bool) (hg:Tests fn caps g b w) :
  Calls pQ 138 #[π (some ⟨b,0,none⟩),.func (.func fn) #[] caps] w fun e w' =>
   e=ρ (U κ (cnt g T 8))∧Fr (at' b) w w'∧jj w' b (ts g T) fo mi:=by
 have hen:=hg.1
 obtain ⟨A,hA,hl,hc⟩:=h.arr
 go_enter Tryz.func138,Tryz.ntmps138
 go_wp2_with (refine bh rfl 86 _ rfl b rfl A _ hc Tryz.underlying86 rfl (by rw[hA];exact size_arr) ?_)
 go_loopw [5,12] (fun n i wr=>∃ k:Nat,k≤8∧i=U κ k∧n=U κ (cnt g T k)∧Fr (at' b) w wr∧jj wr b (rh g T k) fo mi) (fun _ i _=>8-(intOf i).toNat)
 case atStart=>exact ⟨0,by omega,rfl,rfl,Fr.refl _ _,by rw[part_zero];exact h⟩
 case round =>
  clear hc
  obtain ⟨k,hk,rfl,rfl,fk,hT⟩:=hrel
  by_cases hlt:k<8
  ·have hix:=index_line hA hl k hlt
   have rb:=ba wr #[U κ (T k).v,U κ (T k).a,U κ (T k).p,U κ (T k).f,U κ (T k).r] 85
   have hT1:=hT.alloc (ω #[U κ (T k).v,U κ (T k).a,U κ (T k).p,U κ (T k).f,U κ (T k).r] 85)
   have f1:=fk.alloc (ω #[U κ (T k).v,U κ (T k).a,U κ (T k).p,U κ (T k).f,U κ (T k).r] 85)
   clear hT fk
   go_wp2_with fail
   refine(tg (T k) _).mono ?_
   rintro e w1 ⟨rfl,f2⟩
   replace rb:=rb.keep f2 (fun h=>h)
   replace hT1:=hT1.keep f2 (fun h=>h)
   replace f1:=f1.trans (f2.mono (fun _ _ h=>h.elim))
   clear f2
   cases he:emp (T k) with
   | true =>
    have hgo:ll g (T k)=false:=by simp[ll,he]
    go_wp2_with fail
    go_roundw
    case rel=>exact ⟨k+1,by omega,by go_num,by simp[cnt,hgo],f1,by rw[jv hgo];exact hT1⟩
    case measure=>simp[intOf];omega
   | false =>
    obtain ⟨d0,d1,d2,d3,d4⟩:=row5 rb
    go_wp2_with fail
    refine(hg.2 _ (T k) f1).mono ?_
    rintro e w2 ⟨rfl,f2⟩
    replace hT1:=hT1.keep f2 (fun h=>h)
    replace f1:=f1.trans (f2.mono (fun _ _ h=>h.elim))
    clear f2 d0 d1 d2 d3 d4 rb
    cases hh:g (T k) with
    | false =>
     have hgo:ll g (T k)=false:=by simp[ll,hh]
     go_wp2_with fail
     go_roundw
     case rel=>exact ⟨k+1,by omega,by go_num,by simp[cnt,hgo],f1,by rw[jv hgo];exact hT1⟩
     case measure=>simp[intOf];omega
    | true =>
     have hgo:ll g (T k)=true:=by simp[ll,he,hh]
     obtain ⟨c0,c1,c2,c3,c4⟩:=hT1.cells k hlt
     have g0:=hT1.frozen (k*5)
     have g1:=hT1.frozen (k*5+1)
     have g2:=hT1.frozen (k*5+2)
     have g3:=hT1.frozen (k*5+3)
     have g4:=hT1.frozen (k*5+4)
     have i1:0≤(k:Int)∧(k:Int)<8:=by omega
     have hcb:=cnt_bounds g T k
     have hcc:cnt g T (k+1)=cnt g T k+1:=by simp[cnt,hgo]
     go_wp2_with fail
     go_roundw
     case rel=>exact ⟨k+1,by omega,by go_num,by rw[hcc],kr (l:=zl) f1 (Or.inr rfl),by rw[ld hgo];exact hT1.setLine hlt zl⟩
     case measure=>simp[intOf];omega
  ·obtain rfl:k=8:=by omega
   go_wp2_with fail
   go_ret
   exact ⟨rfl,fk,hT.congr (part_all g T)⟩
theorem th (w:World) (v:Value) (t:TypeId):(w.alloc (ω #[v] t)).cell? ⟨w.heap.size,0,none⟩=some v:=(ba w #[v] t).cell 0
theorem test_fill (w:World) (b g1:Nat) (x:Ln) (h1:Row w g1 #[U κ x.v,U κ x.a,U κ x.p,U κ x.f,U κ x.r] 85) (n1:g1≠b) :
  Tests 177 #[π (some ⟨g1,0,none⟩)] (fun l=>key l x) b w:=by
 refine ⟨enters_of Tryz.func177 (by kernel_rfl) rfl,fun w1 l f1=>?_⟩
 have rx:=(h1.keep f1 n1).alloc (ω #[U κ l.v,U κ l.a,U κ l.p,U κ l.f,U κ l.r] 85)
 have rl:=ba w1 #[U κ l.v,U κ l.a,U κ l.p,U κ l.f,U κ l.r] 85
 have hk1:=(h1.keep f1 n1).lt
 have k1:g1≠w1.heap.size:=Nat.ne_of_lt hk1
 clear h1 f1 hk1
 have f1:=(Fr.refl bg w1).alloc (ω #[U κ l.v,U κ l.a,U κ l.p,U κ l.f,U κ l.r] 85)
 obtain ⟨c0,c1,c2,c3,c4⟩:=row5 rx
 obtain ⟨d0,d1,d2,d3,d4⟩:=row5 rl
 have heq:=eq_line
 show Calls pQ 177 #[.agg #[U κ l.v,U κ l.a,U κ l.p,U κ l.f,U κ l.r],π (some ⟨g1,0,none⟩)] w1 _
 go_enter Tryz.func177,Tryz.ntmps177
 go_wp2_with fail
 go_region_with (first
  | (go_at_call_of 169 (Ln.v l);refine(tq l _).mono ?_;rintro e w2 ⟨rfl,f2⟩;(try replace f2:=f2.undrew);(replace f1:=f1.trans f2);(replace rx:=rx.keep f2 (fun h=>h));(replace rl:=rl.keep f2 (fun h=>h));clear f2;(try clear c0 c1 c2 c3 c4 d0 d1 d2 d3 d4);obtain ⟨c0,c1,c2,c3,c4⟩:=row5 rx;obtain ⟨d0,d1,d2,d3,d4⟩:=row5 rl)
  | (go_at_call_of 169 (Ln.v x);refine(tq x _).mono ?_;rintro e w2 ⟨rfl,f2⟩;(try replace f2:=f2.undrew);(replace f1:=f1.trans f2);(replace rx:=rx.keep f2 (fun h=>h));(replace rl:=rl.keep f2 (fun h=>h));clear f2;(try clear c0 c1 c2 c3 c4 d0 d1 d2 d3 d4);obtain ⟨c0,c1,c2,c3,c4⟩:=row5 rx;obtain ⟨d0,d1,d2,d3,d4⟩:=row5 rl))
 all_goals (go_wp2_with fail)
 all_goals go_ret
 all_goals exact ⟨rfl,f1⟩
theorem fill_out (w:World) (p:Value) (i:Int) (x:Ln) (hi:inB i 0 7=false) :
  Calls pQ 160 #[p,U κ i,.agg #[U κ x.v,U κ x.a,U κ x.p,U κ x.f,U κ x.r]] w fun e w'=>e=ρ (U κ 1)∧Fr bg w w':=by
 go_enter Tryz.func160,Tryz.ntmps160
 go_wp2_with fail
 refine(yh _ _).mono ?_
 rintro e w1 ⟨rfl,rfl⟩
 rw[hi]
 go_wp2_with fail
 go_ret
 exact ⟨rfl,(Fr.refl _ _).alloc _⟩
theorem fill_bad (w:World) (p:Value) (i:Int) (x:Ln) (hi:inB i 0 7=true) (hx:jz x=false) :
  Calls pQ 160 #[p,U κ i,.agg #[U κ x.v,U κ x.a,U κ x.p,U κ x.f,U κ x.r]] w fun e w'=>e=ρ (U κ 30)∧Fr bg w w':=by
 have f0:=(Fr.refl bg w).alloc (ω #[U κ x.v,U κ x.a,U κ x.p,U κ x.f,U κ x.r] 85)
 go_enter Tryz.func160,Tryz.ntmps160
 go_wp2_with fail
 refine(yh _ _).mono ?_
 rintro e w1 ⟨rfl,rfl⟩
 rw[hi]
 go_wp2_with fail
 refine(tright_any x _).mono ?_
 rintro e w2 ⟨rfl,f2⟩
 rw[hx]
 go_wp2_with fail
 go_ret
 exact ⟨rfl,f0.trans f2⟩
theorem fill_ok (w:World) (b:Nat) (T:Nat→Ln) (fo mi:Int) (h:jj w b T fo mi) (k:Nat) (hk:k<8) (x:Ln) (hx:jz x=true) :
  Calls pQ 160 #[π (some ⟨b,0,none⟩),U κ (k:Int),.agg #[U κ x.v,U κ x.a,U κ x.p,U κ x.f,U κ x.r]] w fun e w' =>
   e=ρ (U κ 0)∧Fr (at' b) w w'∧jj w' b (filled T k x) fo mi:=by
 have hi:inB (k:Int) 0 7=true:=inB_iff.mpr (by omega)
 have hb:=h.lt
 have f0:=(Fr.refl (at' b) w).alloc (ω #[U κ x.v,U κ x.a,U κ x.p,U κ x.f,U κ x.r] 85)
 have r0:=ba w #[U κ x.v,U κ x.a,U κ x.p,U κ x.f,U κ x.r] 85
 have h0:=h.alloc (ω #[U κ x.v,U κ x.a,U κ x.p,U κ x.f,U κ x.r] 85)
 have i1:0≤(k:Int)∧(k:Int)<8:=by omega
 clear h
 go_enter Tryz.func160,Tryz.ntmps160
 go_wp2_with fail
 refine(yh _ _).mono ?_
 rintro e w1 ⟨rfl,rfl⟩
 rw[hi]
 go_wp2_with fail
 refine(tright_any x _).mono ?_
 rintro e w2 ⟨rfl,f2⟩
 rw[hx]
 replace r0:=r0.keep f2 (fun h=>h)
 replace h0:=h0.keep f2 (fun h=>h)
 replace f0:=f0.trans (f2.mono (T:=at' b) (fun _ _ h=>h.elim))
 clear f2
 go_wp2_with fail
 refine(forget_any _ _ _ _ _ h0 _ _ _ (test_fill _ b _ x r0 (by omega))).mono ?_
 rintro e w3 ⟨rfl,f3,h3⟩
 replace r0:=r0.keep f3 (show w.heap.size≠b by omega)
 replace f0:=f0.trans f3
 clear f3 h0
 obtain ⟨d0,d1,d2,d3,d4⟩:=row5 r0
 obtain ⟨c0,c1,c2,c3,c4⟩:=h3.cells k hk
 have g0:=h3.frozen (k*5)
 have g1:=h3.frozen (k*5+1)
 have g2:=h3.frozen (k*5+2)
 have g3:=h3.frozen (k*5+3)
 have g4:=h3.frozen (k*5+4)
 go_wp2_with fail
 go_region
 all_goals (go_wp2_with fail)
 all_goals go_ret
 all_goals exact ⟨rfl,(kr (l:=x) f0 (Or.inr rfl)).drew,(h3.setLine hk x).keep ((Fr.refl bg _).drew) (fun h=>h)⟩
theorem test_asid (w:World) (b g1 g2:Nat) (vm x:Int) (h1:w.cell? ⟨g1,0,none⟩=some (U κ vm)) (h2:w.cell? ⟨g2,0,none⟩=some (U κ x)) (n1:g1≠b) (n2:g2≠b) :
  Tests 139 #[π (some ⟨g1,0,none⟩),π (some ⟨g2,0,none⟩)] (fun l=>l.v == vm && l.a == x) b w:=by
 refine ⟨enters_of Tryz.func139 (by kernel_rfl) rfl,fun w1 l f1=>?_⟩
 have e1:=cd f1 h1 n1
 have e2:=cd f1 h2 n2
 have l1:=qe e1
 have l2:=qe e2
 have k1:g1≠w1.heap.size:=Nat.ne_of_lt l1
 have k2:g2≠w1.heap.size:=Nat.ne_of_lt l2
 have a1:=cd ((Fr.refl bg w1).alloc (ω #[U κ l.v,U κ l.a,U κ l.p,U κ l.f,U κ l.r] 85)) e1 (fun h=>h)
 have a2:=cd ((Fr.refl bg w1).alloc (ω #[U κ l.v,U κ l.a,U κ l.p,U κ l.f,U κ l.r] 85)) e2 (fun h=>h)
 clear h1 h2 f1 e1 e2 l1 l2
 show Calls pQ 139 #[.agg #[U κ l.v,U κ l.a,U κ l.p,U κ l.f,U κ l.r],π (some ⟨g1,0,none⟩),π (some ⟨g2,0,none⟩)] w1 _
 cases t1:(l.v == vm) with
 | true =>
  go_enter Tryz.func139,Tryz.ntmps139
  go_wp2_with fail
  go_ret
  exact ⟨by simp[t1],(Fr.refl _ _).alloc _⟩
 | false =>
  go_enter Tryz.func139,Tryz.ntmps139
  go_wp2_with fail
  go_ret
  exact ⟨by simp[t1],(Fr.refl _ _).alloc _⟩
theorem flush_asid (w:World) (b:Nat) (T:Nat→Ln) (fo mi vm x:Int) (h:jj w b T fo mi) :
  Calls pQ 124 #[π (some ⟨b,0,none⟩),U κ vm,U κ x] w fun e w' =>
   e=ρ (U κ (cnt (fun l=>l.v == vm && l.a == x) T 8))∧Fr (at' b) w w'∧jj w' b (ts (fun l=>l.v == vm && l.a == x) T) fo mi:=by
 have hb:=h.lt
 have c1:=th w (U κ vm) 3
 have h1:=h.alloc (ω #[U κ vm] 3)
 have f1:=(Fr.refl (at' b) w).alloc (ω #[U κ vm] 3)
 have hs:(w.alloc (ω #[U κ vm] 3)).heap.size=w.heap.size+1:=by simp
 have c2:=th (w.alloc (ω #[U κ vm] 3)) (U κ x) 3
 rw[hs] at c2
 have c3:=cd ((Fr.refl bg (w.alloc (ω #[U κ vm] 3))).alloc (ω #[U κ x] 3)) c1 (fun h=>h)
 have h2:=h1.alloc (ω #[U κ x] 3)
 have f2:=f1.alloc (ω #[U κ x] 3)
 have ht:=test_asid _ b _ _ vm x c3 c2 (by omega) (by omega)
 clear hs c1 c2 c3 h1 f1
 go_enter Tryz.func124,Tryz.ntmps124
 go_wp2_with fail
 refine(forget_any _ _ _ _ _ h2 _ _ _ ht).mono ?_
 rintro e w1 ⟨rfl,f3,h3⟩
 go_wp2_with fail
 go_ret
 exact ⟨rfl,f2.trans f3,h3⟩
end Go.Proofs.YtibhbjbpodlpiaaGreat
