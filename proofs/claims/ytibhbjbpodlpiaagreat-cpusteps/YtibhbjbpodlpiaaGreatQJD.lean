/-
  Contracts over the translation. No statement is proved here.
-/
import Derived.WalkKit
import Derived.WalkSpells
import Derived.WalkLawsBesides
import Derived.BigQuiet
import Derived.Deep.QuietTactic
import Derived.Laws.StructEq
import Derived.Laws.ResultCell
import Derived.Laws.Rows
import Derived.Deep.RegionWith
import Derived.Laws.CopyRow
import Derived.Laws.CopyOwn
import Derived.Laws.MakeOwn
import Derived.Test.YtibhbjbpodlpiaaGreatQJA
set_option maxRecDepth 100000
set_option maxHeartbeats 8000000
namespace Go.Proofs.YtibhbjbpodlpiaaGreat
open Go.RowKit
open Go.Value renaming int → U, bool → β, pointer → π, tuple → τ
open Go.IntKind renaming i64 → κ, u32 → μ
open Go.Obj renaming cells → ω
open Go.Ending renaming returned → ρ
open Go.Proofs.Tryz renaming prog → pQ
structure Ln where (v a p f r:Int)
def zl:Ln:=⟨0,0,0,0,0⟩
def Ln.box (l:Ln):Array Value:=#[U κ l.v,U κ l.a,U κ l.p,U κ l.f,U κ l.r]
def leq (x y:Ln):Bool:=x.v == y.v && (x.a == y.a && (x.p == y.p && (x.f == y.f && x.r == y.r)))
def emp (l:Ln):Bool:=leq l zl
def key (x y:Ln):Bool:=x.v == y.v && (x.a == y.a && x.p == y.p)
def inB (n a b:Int):Bool:=decide (a≤n) && decide (n≤b)
def jz (l:Ln):Bool:=inB l.v 1 15 && (inB l.a 0 15 && (inB l.p 0 1023 && (inB l.f 0 1023 && inB l.r 0 7)))
theorem leq_iff {x y:Ln}:leq x y=true ↔ x=y:=by
 cases x;cases y;simp[leq]
theorem emp_iff {x:Ln}:emp x=true ↔ x=zl:=leq_iff
theorem key_iff {x y:Ln}:key x y=true ↔ x.v=y.v∧x.a=y.a∧x.p=y.p:=by simp[key]
theorem inB_iff {n a b:Int}:inB n a b=true ↔ a≤n∧n≤b:=by simp[inB]
theorem rightL_iff {l:Ln}:jz l=true ↔ (1≤l.v∧l.v≤15)∧(0≤l.a∧l.a≤15)∧(0≤l.p∧l.p≤1023)∧(0≤l.f∧l.f≤1023)∧(0≤l.r∧l.r≤7):=by
 simp[jz,inB_iff]
theorem right_emp {l:Ln} (h:jz l=true):emp l=false:=by
 cases he:emp l with
 | false=>rfl
 | true =>
  rw[emp_iff.mp he] at h
  exact absurd h (by decide)
def ll (g:Ln→Bool) (l:Ln):Bool:=!emp l && g l
def ts (g:Ln→Bool) (T:Nat→Ln):Nat→Ln:=fun j=>bif ll g (T j) then zl else T j
def cnt (g:Ln→Bool) (T:Nat→Ln):Nat→Int
 | 0=>0
 | n+1=>cnt g T n+(bif ll g (T n) then 1 else 0)
def upd (T:Nat→Ln) (k:Nat) (l:Ln):Nat→Ln:=fun j=>bif j == k then l else T j
def rh (g:Ln→Bool) (T:Nat→Ln) (k:Nat):Nat→Ln:=fun j=>bif decide (j<k) then ts g T j else T j
theorem l7 (T:Nat→Ln) (k:Nat) (l:Ln):upd T k l k=l:=by simp[upd]
theorem jm (T:Nat→Ln) {k j:Nat} (l:Ln) (h:j≠k):upd T k l j=T j:=by
 have:(j == k)=false:=by simpa using h
 simp[upd,this]
theorem cnt_bounds (g:Ln→Bool) (T:Nat→Ln) (n:Nat):0≤cnt g T n∧cnt g T n≤n:=by
 induction n with
 | zero=>exact ⟨Int.le_refl _,Int.le_refl _⟩
 | succ n ih =>
  unfold cnt
  cases ll g (T n) <;> simp <;> omega
theorem part_zero (g:Ln→Bool) (T:Nat→Ln):rh g T 0=T:=by
 funext j;simp[rh]
theorem part_all (g:Ln→Bool) (T:Nat→Ln) (j:Nat) (h:j<8):rh g T 8 j=ts g T j:=by
 simp[rh,h]
theorem part_at (g:Ln→Bool) (T:Nat→Ln) (k:Nat):rh g T k k=T k:=by simp[rh]
theorem ld {g:Ln→Bool} {T:Nat→Ln} {k:Nat} (h:ll g (T k)=true):rh g T (k+1)=upd (rh g T k) k zl:=by
 funext j
 by_cases hj:j=k
 ·subst hj
  simp[rh,upd,ts,h]
 ·rw[jm _ _ hj]
  have:decide (j<k+1)=decide (j<k):=by simp;omega
  simp only[rh,this]
theorem jv {g:Ln→Bool} {T:Nat→Ln} {k:Nat} (h:ll g (T k)=false):rh g T (k+1)=rh g T k:=by
 funext j
 by_cases hj:j=k
 ·subst hj
  simp[rh,ts,h]
 ·have:decide (j<k+1)=decide (j<k):=by simp;omega
  simp only[rh,this]
def hit (v a p:Int) (l:Ln):Bool:=!emp l && key l ⟨v,a,p,0,0⟩
def idx (T:Nat→Ln) (v a p:Int):Nat→Int
 | 0=>-1
 | n+1=>bif decide (0≤idx T v a p n) then idx T v a p n else bif hit v a p (T n) then(n:Int) else -1
theorem idx_none {T:Nat→Ln} {v a p:Int} {n:Nat} (h:∀ j,j<n→hit v a p (T j)=false):idx T v a p n=-1:=by
 induction n with
 | zero=>rfl
 | succ n ih =>
  have e:=ih (fun j hj=>h j (by omega))
  simp[idx,e,h n (by omega)]
theorem idx_at {T:Nat→Ln} {v a p:Int} {k:Nat} (h:∀ j,j<k→hit v a p (T j)=false) (hk:hit v a p (T k)=true):∀ n,k<n→idx T v a p n=k:=by
 intro n hn
 induction n with
 | zero=>omega
 | succ n ih =>
  by_cases hkn:k=n
  ·subst hkn
   simp[idx,idx_none h,hk]
  ·have e:=ih (by omega)
   simp[idx,e]
theorem xy (T:Nat→Ln) (v a p:Int) (n:Nat):(idx T v a p n=-1∧∀ j,j<n→hit v a p (T j)=false)∨∃ k,k<n∧idx T v a p n=k∧hit v a p (T k)=true∧∀ j,j<k→hit v a p (T j)=false:=by
 induction n with
 | zero=>exact Or.inl ⟨rfl,fun j hj=>by omega⟩
 | succ n ih =>
  rcases ih with ⟨e,h⟩ | ⟨k,hk,e,h1,h2⟩
  ·cases hn:hit v a p (T n) with
   | false =>
    refine Or.inl ⟨by simp[idx,e,hn],fun j hj=>?_⟩
    rcases Nat.lt_or_ge j n with h' | h'
    ·exact h j h'
    ·obtain rfl:j=n:=by omega
     exact hn
   | true=>exact Or.inr ⟨n,by omega,by simp[idx,e,hn],hn,h⟩
  ·exact Or.inr ⟨k,by omega,by simp[idx,e],h1,h2⟩
def ansF (T:Nat→Ln) (i:Int):Int:=bif decide (i<0) then 0 else(T i.toNat).f
def wb (T:Nat→Ln) (i:Int):Int:=bif decide (i<0) then 0 else(T i.toNat).r
def ansB (i:Int):Bool:=!decide (i<0)
def lj (i:Int):Int:=bif decide (i<0) then 0 else 1
def li (i:Int):Int:=bif decide (i<0) then 1 else 0
def kh (T:Nat→Ln):Prop:=∀ j,j<8→T j=zl∨jz (T j)=true
def vl (T:Nat→Ln):Prop:=∀ i j,i<8→j<8→emp (T i)=false→emp (T j)=false→key (T i) (T j)=true→i=j
theorem good_emp {T:Nat→Ln} (h:kh T) {j:Nat} (hj:j<8):emp (T j)=((T j).v == 0):=by
 rcases h j hj with e | e
 ·rw[e];rfl
 ·rw[right_emp e]
  have:=rightL_iff.mp e
  symm
  simp
  omega
theorem good_zero:kh (fun _=>zl):=fun _ _=>Or.inl rfl
theorem uniq_zero:vl (fun _=>zl):=fun _ _ _ _ h _ _=>absurd (show emp zl=false from h) (by decide)
theorem goes_false {g:Ln→Bool} {l:Ln} (h:ll g l=false):emp l=true∨g l=false:=by
 unfold ll at h
 cases he:emp l with
 | true=>exact Or.inl rfl
 | false=>rw[he] at h;exact Or.inr (by simpa using h)
theorem qh (g:Ln→Bool) (T:Nat→Ln) (j:Nat):(ts g T j=zl∧ll g (T j)=true)∨(ts g T j=T j∧ll g (T j)=false):=by
 cases h:ll g (T j) with
 | true=>left;simp[ts,h]
 | false=>right;simp[ts,h]
theorem good_wipe {T:Nat→Ln} (h:kh T) (g:Ln→Bool):kh (ts g T):=by
 intro j hj
 rcases qh g T j with ⟨e,_⟩ | ⟨e,_⟩
 ·exact Or.inl e
 ·rw[e];exact h j hj
theorem uniq_wipe {T:Nat→Ln} (h:vl T) (g:Ln→Bool):vl (ts g T):=by
 intro i j hi hj he he' hk
 rcases qh g T i with ⟨e,_⟩ | ⟨e,_⟩
 ·rw[e] at he;exact absurd he (by decide)
 rcases qh g T j with ⟨e',hg⟩ | ⟨e',_⟩
 ·rw[e'] at he';exact absurd he' (by decide)
 ·rw[e] at he hk
  rw[e'] at hk he'
  exact h i j hi hj he he' hk
theorem good_upd {T:Nat→Ln} (h:kh T) {l:Ln} (hl:l=zl∨jz l=true) (k:Nat):kh (upd T k l):=by
 intro j hj
 by_cases hjk:j=k
 ·subst hjk;rw[l7];exact hl
 ·rw[jm _ _ hjk];exact h j hj
theorem uniq_zl {T:Nat→Ln} (h:vl T) (k:Nat):vl (upd T k zl):=by
 intro i j hi hj he he' hk
 by_cases hik:i=k
 ·subst hik;rw[l7] at he;exact absurd he (by decide)
 by_cases hjk:j=k
 ·subst hjk;rw[l7] at he';exact absurd he' (by decide)
 rw[jm _ _ hik] at he hk
 rw[jm _ _ hjk] at he' hk
 exact h i j hi hj he he' hk
theorem key_comm (x y:Ln):key x y=key y x:=by
 have e:∀ a b:Int,(a == b)=(b == a):=fun a b=>by
  by_cases h:a=b
  ·subst h;rfl
  ·rw[beq_eq_false_iff_ne.mpr h,beq_eq_false_iff_ne.mpr (fun e=>h e.symm)]
 unfold key
 rw[e x.v,e x.a,e x.p]
def filled (T:Nat→Ln) (k:Nat) (l:Ln):Nat→Ln:=upd (ts (fun x=>key x l) T) k l
theorem wiped_key {T:Nat→Ln} {l:Ln} {j:Nat} (he:emp (ts (fun x=>key x l) T j)=false):key (ts (fun x=>key x l) T j) l=false∧ts (fun x=>key x l) T j=T j:=by
 rcases qh (fun x=>key x l) T j with ⟨e,_⟩ | ⟨e,hg⟩
 ·rw[e] at he;exact absurd he (by decide)
 ·rw[e] at he ⊢
  rcases goes_false hg with h | h
  ·rw[he] at h;exact absurd h (by decide)
  ·exact ⟨h,rfl⟩
theorem uniq_filled {T:Nat→Ln} (h:vl T) (k:Nat) (l:Ln):vl (filled T k l):=by
 intro i j hi hj he he' hk
 unfold filled at he he' hk
 by_cases hik:i=k
 ·by_cases hjk:j=k
  ·omega
  ·subst hik
   rw[jm _ _ hjk] at he' hk
   rw[l7,key_comm,(wiped_key he').1] at hk
   exact absurd hk (by decide)
 ·by_cases hjk:j=k
  ·subst hjk
   rw[jm _ _ hik] at he hk
   rw[l7,(wiped_key he).1] at hk
   exact absurd hk (by decide)
  ·rw[jm _ _ hik] at he hk
   rw[jm _ _ hjk] at he' hk
   exact uniq_wipe h _ i j hi hj he he' hk
theorem good_filled {T:Nat→Ln} (h:kh T) (k:Nat) {l:Ln} (hl:jz l=true):kh (filled T k l):=
 good_upd (good_wipe h _) (Or.inr hl) k
theorem mj (n a b:Int) (w:World):Calls pQ 93 #[U κ n,U κ a,U κ b] w fun e w'=>e=ρ (β (inB n a b))∧w'=w:=by
 unfold inB
 by_cases h:a≤n
 ·have t1:decide (a≤n)=true:=by simpa using h
  rw[t1]
  go_enter Tryz.func93,Tryz.ntmps93
  go_wp2
  go_ret
  exact ⟨rfl,rfl⟩
 ·have t1:decide (a≤n)=false:=by simpa using h
  rw[t1]
  go_enter Tryz.func93,Tryz.ntmps93
  go_wp2
  go_ret
  exact ⟨rfl,rfl⟩
theorem yh (n:Int) (w:World):Calls pQ 41 #[U κ n] w fun e w'=>e=ρ (β (inB n 0 7))∧w'=w:=by
 go_enter Tryz.func41,Tryz.ntmps41
 go_wp2_with fail
 refine(mj _ _ _ _).mono ?_
 rintro e w1 ⟨rfl,rfl⟩
 go_wp2
 go_ret
 exact ⟨rfl,rfl⟩
theorem eq_line (v a p f r v' a' p' f' r':Int) (w:World):(binOp .eql 85 (.agg #[U κ v,U κ a,U κ p,U κ f,U κ r]) (.agg #[U κ v',U κ a',U κ p',U κ f',U κ r'])).run pQ w=.ok (β (v == v' && (a == a' && (p == p' && (f == f' && r == r'))))) w:=by
 simp[go_sem]
 repeat' split
 all_goals simp_all
theorem tg (l:Ln) (w:World):Calls pQ 161 #[.agg #[U κ l.v,U κ l.a,U κ l.p,U κ l.f,U κ l.r]] w fun e w'=>e=ρ (β (emp l))∧Fr bg w w':=by
 have heq:=eq_line
 go_enter Tryz.func161,Tryz.ntmps161
 go_wp2
 go_ret
 exact ⟨rfl,(Fr.refl _ _).alloc _⟩
theorem ww:(Tryz.prog.info? 85).map (·.size)=some 5:=by kernel_rfl
theorem ret_line {fn:Func} {p:Tmp} {tmps:Array Value} {g:Nat} {cs:Array Value} {w:World} (h:fn.results=#[.cell p 85]) (hp:tmps.getD p undef=π (some ⟨g,0,none⟩)) (hr:Row w g cs 85) (hs:cs.size=5) :
  (results fn tmps).run pQ w=.ok (.agg cs) w:=
 results_cell_row h tmps w g _ cs (0,0) _ hp hr Tryz.underlying85 rfl (by rw[hs];exact ww)
theorem row_alloc1 (w:World) (o:Obj) (cs:Array Value) (t:TypeId):Row ((w.alloc o).alloc (.cells cs t)) (w.heap.size+1) cs t:=by
 have:=ba (w.alloc o) cs t
 rwa [show(w.alloc o).heap.size=w.heap.size+1 by simp] at this
theorem tq (l:Ln) (w:World):Calls pQ 169 #[.agg #[U κ l.v,U κ l.a,U κ l.p,U κ l.f,U κ l.r]] w fun e w'=>e=ρ (.agg #[U κ l.v,U κ l.a,U κ l.p,U κ 0,U κ 0])∧Fr bg w w':=by
 go_enter Tryz.func169,Tryz.ntmps169
 go_wp2
 refine bodyPost_ret (ret_line rfl rfl (row_alloc1 w _ _ _) rfl) rfl ?_
 exact ⟨rfl,((Fr.refl _ _).alloc _).alloc _⟩
theorem tright_any (l:Ln) (w:World):Calls pQ 176 #[.agg #[U κ l.v,U κ l.a,U κ l.p,U κ l.f,U κ l.r]] w fun e w'=>e=ρ (β (jz l))∧Fr bg w w':=by
 unfold jz
 have f0:=(Fr.refl bg w).alloc (ω #[U κ l.v,U κ l.a,U κ l.p,U κ l.f,U κ l.r] 85)
 go_enter Tryz.func176,Tryz.ntmps176
 go_wp2_with fail
 refine(mj _ _ _ _).mono ?_
 rintro e w1 ⟨rfl,rfl⟩
 cases h1:inB l.v 1 15 with
 | false =>
  go_wp2_with fail
  go_ret
  exact ⟨jk (by simp[h1]),f0⟩
 | true =>
  go_wp2_with fail
  refine(mj _ _ _ _).mono ?_
  rintro e w2 ⟨rfl,rfl⟩
  cases h2:inB l.a 0 15 with
  | false =>
   go_wp2_with fail
   go_ret
   exact ⟨jk (by simp[h1,h2]),f0⟩
  | true =>
   go_wp2_with fail
   refine(mj _ _ _ _).mono ?_
   rintro e w3 ⟨rfl,rfl⟩
   cases h3:inB l.p 0 1023 with
   | false =>
    go_wp2_with fail
    go_ret
    exact ⟨jk (by simp[h1,h2,h3]),f0⟩
   | true =>
    go_wp2_with fail
    refine(mj _ _ _ _).mono ?_
    rintro e w4 ⟨rfl,rfl⟩
    cases h4:inB l.f 0 1023 with
    | false =>
     go_wp2_with fail
     go_ret
     exact ⟨jk (by simp[h1,h2,h3,h4]),f0⟩
    | true =>
     go_wp2_with fail
     refine(mj _ _ _ _).mono ?_
     rintro e w5 ⟨rfl,rfl⟩
     go_wp2_with fail
     go_ret
     exact ⟨jk (by simp[h1,h2,h3,h4]),f0⟩
theorem ry (l:Ln) (w:World):Calls pQ 143 #[.agg #[U κ l.v,U κ l.a,U κ l.p,U κ l.f,U κ l.r]] w fun e w'=>e=ρ (β (jz l))∧Fr bg w w':=by
 unfold jz inB
 cases h1:decide (1≤l.v) with
 | false =>
  go_enter Tryz.func143,Tryz.ntmps143
  go_wp2
  go_ret
  exact ⟨rfl,(Fr.refl _ _).alloc _⟩
 | true =>
  cases h2:decide (l.v≤15) with
  | false =>
   go_enter Tryz.func143,Tryz.ntmps143
   go_wp2
   go_ret
   exact ⟨rfl,(Fr.refl _ _).alloc _⟩
  | true =>
   cases h3:decide (0≤l.a) with
   | false =>
    go_enter Tryz.func143,Tryz.ntmps143
    go_wp2
    go_ret
    exact ⟨rfl,(Fr.refl _ _).alloc _⟩
   | true =>
    cases h4:decide (l.a≤15) with
    | false =>
     go_enter Tryz.func143,Tryz.ntmps143
     go_wp2
     go_ret
     exact ⟨rfl,(Fr.refl _ _).alloc _⟩
    | true =>
     cases h5:decide (0≤l.p) with
     | false =>
      go_enter Tryz.func143,Tryz.ntmps143
      go_wp2
      go_ret
      exact ⟨rfl,(Fr.refl _ _).alloc _⟩
     | true =>
      cases h6:decide (l.p≤1023) with
      | false =>
       go_enter Tryz.func143,Tryz.ntmps143
       go_wp2
       go_ret
       exact ⟨rfl,(Fr.refl _ _).alloc _⟩
      | true =>
       cases h7:decide (0≤l.f) with
       | false =>
        go_enter Tryz.func143,Tryz.ntmps143
        go_wp2
        go_ret
        exact ⟨rfl,(Fr.refl _ _).alloc _⟩
       | true =>
        cases h8:decide (l.f≤1023) with
        | false =>
         go_enter Tryz.func143,Tryz.ntmps143
         go_wp2
         go_ret
         exact ⟨rfl,(Fr.refl _ _).alloc _⟩
        | true =>
         cases h9:decide (0≤l.r) with
         | false =>
          go_enter Tryz.func143,Tryz.ntmps143
          go_wp2
          go_ret
          exact ⟨rfl,(Fr.refl _ _).alloc _⟩
         | true =>
          cases h10:decide (l.r≤7) with
          | false =>
           go_enter Tryz.func143,Tryz.ntmps143
           go_wp2
           go_ret
           exact ⟨rfl,(Fr.refl _ _).alloc _⟩
          | true =>
           go_enter Tryz.func143,Tryz.ntmps143
           go_wp2
           go_ret
           exact ⟨rfl,(Fr.refl _ _).alloc _⟩
section
open Go.RowKit
theorem Fr.undrew {S:Nat→Prop} {w w':World} (h:Fr S w.drew w'):Fr S w w':=⟨h.os,h.tape,h.output,h.size,h.block⟩
theorem row5 {w:World} {b:Nat} {c0 c1 c2 c3 c4:Value} {t:TypeId} (h:Row w b #[c0,c1,c2,c3,c4] t) :
  w.cell? ⟨b,0,none⟩=some c0∧w.cell? ⟨b,1,none⟩=some c1∧w.cell? ⟨b,2,none⟩=some c2∧w.cell? ⟨b,3,none⟩=some c3∧w.cell? ⟨b,4,none⟩=some c4:=
 ⟨h.cell 0,h.cell 1,h.cell 2,h.cell 3,h.cell 4⟩
def IsLines (get:Nat→Option Value) (n:Nat) (T:Nat→Ln):Prop:=
 ∀ j,j<n→get (j*5)=some (U κ (T j).v)∧get (j*5+1)=some (U κ (T j).a)∧get (j*5+2)=some (U κ (T j).p)∧get (j*5+3)=some (U κ (T j).f)∧get (j*5+4)=some (U κ (T j).r)
def IsBuf (t:TypeId) (w:World) (b:Nat) (T:Nat→Ln) (fo mi:Int):Prop:=
 ∃ cs,Row w b cs t∧cs.size=42∧IsLines (fun i=>cs[i]?) 8 T∧cs[40]? = some (U κ fo)∧cs[41]? = some (U κ mi)
theorem IsLines.congr {get:Nat→Option Value} {n:Nat} {T T':Nat→Ln} (h:IsLines get n T) (e:∀ j,j<n→T j=T' j):IsLines get n T':=by
 intro j hj;rw[←e j hj];exact h j hj
section
variable {t:TypeId} {w:World} {b:Nat} {T:Nat→Ln} {fo mi:Int}
theorem IsBuf.congr {T':Nat→Ln} (h:IsBuf t w b T fo mi) (e:∀ j,j<8→T j=T' j):IsBuf t w b T' fo mi:=by
 obtain ⟨cs,h1,h2,h3,h4⟩:=h;exact ⟨cs,h1,h2,h3.congr e,h4⟩
theorem IsBuf.keep {S:Nat→Prop} {w':World} (h:IsBuf t w b T fo mi) (f:Fr S w w') (hs:¬ S b):IsBuf t w' b T fo mi:=by
 obtain ⟨cs,h,r⟩:=h;exact ⟨cs,h.keep f hs,r⟩
theorem IsBuf.alloc (h:IsBuf t w b T fo mi) (o:Obj):IsBuf t (w.alloc o) b T fo mi:=h.keep ((Fr.refl bg w).alloc o) (fun h=>h)
theorem IsBuf.lt (h:IsBuf t w b T fo mi):b<w.heap.size:=by obtain ⟨cs,h,_⟩:=h;exact h.lt
theorem IsBuf.frozen (h:IsBuf t w b T fo mi) (i:Nat):w.frozen? ⟨b,i,none⟩=false:=by obtain ⟨cs,h,_⟩:=h;exact h.frozen i
theorem IsBuf.cells (h:IsBuf t w b T fo mi) (j:Nat) (hj:j<8) :
  w.cell? ⟨b,j*5,none⟩=some (U κ (T j).v)∧w.cell? ⟨b,j*5+1,none⟩=some (U κ (T j).a)∧w.cell? ⟨b,j*5+2,none⟩=some (U κ (T j).p)∧w.cell? ⟨b,j*5+3,none⟩=some (U κ (T j).f)∧w.cell? ⟨b,j*5+4,none⟩=some (U κ (T j).r):=by
 obtain ⟨cs,hr,_,he,_⟩:=h
 obtain ⟨h0,h1,h2,h3,h4⟩:=he j hj
 exact ⟨(hr.cell _).trans h0,(hr.cell _).trans h1,(hr.cell _).trans h2,(hr.cell _).trans h3,(hr.cell _).trans h4⟩
theorem IsBuf.cfo (h:IsBuf t w b T fo mi):w.cell? ⟨b,40,none⟩=some (U κ fo):=by
 obtain ⟨cs,hr,_,_,h,_⟩:=h;exact(hr.cell _).trans h
theorem IsBuf.cmi (h:IsBuf t w b T fo mi):w.cell? ⟨b,41,none⟩=some (U κ mi):=by
 obtain ⟨cs,hr,_,_,_,h⟩:=h;exact(hr.cell _).trans h
theorem IsBuf.setFo (h:IsBuf t w b T fo mi) (x:Int):IsBuf t (w.setCell ⟨b,40,none⟩ (U κ x)) b T x mi:=by
 obtain ⟨cs,hr,hs,hl,h1,h2⟩:=h
 refine ⟨_,hr.setCell 40 _,by simpa using hs,fun j hj=>?_,?_,?_⟩
 ·obtain ⟨e0,e1,e2,e3,e4⟩:=hl j hj
  simp (disch:=omega) only[Array.getElem?_setIfInBounds,if_neg]
  exact ⟨e0,e1,e2,e3,e4⟩
 ·simp[hs]
 ·simpa [Array.getElem?_setIfInBounds] using h2
theorem IsBuf.setMi (h:IsBuf t w b T fo mi) (x:Int):IsBuf t (w.setCell ⟨b,41,none⟩ (U κ x)) b T fo x:=by
 obtain ⟨cs,hr,hs,hl,h1,h2⟩:=h
 refine ⟨_,hr.setCell 41 _,by simpa using hs,fun j hj=>?_,?_,?_⟩
 ·obtain ⟨e0,e1,e2,e3,e4⟩:=hl j hj
  simp (disch:=omega) only[Array.getElem?_setIfInBounds,if_neg]
  exact ⟨e0,e1,e2,e3,e4⟩
 ·simpa [Array.getElem?_setIfInBounds] using h1
 ·simp[hs]
def set5 (w:World) (b o:Nat) (l:Ln):World:=
 ((((w.setCell ⟨b,o,none⟩ (U κ l.v)).setCell ⟨b,o+1,none⟩ (U κ l.a)).setCell ⟨b,o+2,none⟩ (U κ l.p)).setCell ⟨b,o+3,none⟩ (U κ l.f)).setCell ⟨b,o+4,none⟩ (U κ l.r)
theorem kr {S:Nat→Prop} {w1:World} {b o:Nat} {l:Ln} (h:Fr S w w1) (hb:w.heap.size≤b∨S b):Fr S w (set5 w1 b o l):=
 ((((h.setCell (p:=⟨b,o,none⟩) hb _).setCell (p:=⟨b,o+1,none⟩) hb _).setCell (p:=⟨b,o+2,none⟩) hb _).setCell (p:=⟨b,o+3,none⟩) hb _).setCell (p:=⟨b,o+4,none⟩) hb _
theorem lines_set5 {cs:Array Value} {n k:Nat} {l:Ln} (hl:IsLines (fun i=>cs[i]?) n T) (hk:k<n) (hs:n*5≤cs.size) :
  IsLines (fun i=>(((((cs.setIfInBounds (k*5) (U κ l.v)).setIfInBounds (k*5+1) (U κ l.a)).setIfInBounds (k*5+2) (U κ l.p)).setIfInBounds (k*5+3) (U κ l.f)).setIfInBounds (k*5+4) (U κ l.r))[i]?) n (upd T k l):=by
 intro j hj
 by_cases hjk:j=k
 ·subst hjk
  rw[l7]
  simp (disch:=omega) [Array.getElem?_setIfInBounds]
  omega
 ·rw[jm _ _ hjk]
  obtain ⟨e0,e1,e2,e3,e4⟩:=hl j hj
  simp (disch:=omega) only[Array.getElem?_setIfInBounds,if_neg]
  exact ⟨e0,e1,e2,e3,e4⟩
theorem IsBuf.setLine (h:IsBuf t w b T fo mi) {k:Nat} (hk:k<8) (l:Ln):IsBuf t (set5 w b (k*5) l) b (upd T k l) fo mi:=by
 obtain ⟨cs,hr,hs,hl,h1,h2⟩:=h
 refine ⟨_,((((hr.setCell _ _).setCell _ _).setCell _ _).setCell _ _).setCell _ _,by simpa using hs,lines_set5 hl hk (by omega),?_,?_⟩
 ·simp (disch:=omega) only[Array.getElem?_setIfInBounds,if_neg];exact h1
 ·simp (disch:=omega) only[Array.getElem?_setIfInBounds,if_neg];exact h2
end
def LineRow (w:World) (g n k:Nat) (T:Nat→Ln):Prop:=∃ cs,Row w g cs 85∧cs.size=n*5∧IsLines (fun i=>cs[i]?) k T
section
variable {w:World} {g n k:Nat} {T:Nat→Ln}
theorem LineRow.keep {S:Nat→Prop} {w':World} (h:LineRow w g n k T) (f:Fr S w w') (hs:¬ S g):LineRow w' g n k T:=by
 obtain ⟨cs,h,r⟩:=h;exact ⟨cs,h.keep f hs,r⟩
theorem LineRow.cells (h:LineRow w g n k T) (j:Nat) (hj:j<k) :
  w.cell? ⟨g,j*5,none⟩=some (U κ (T j).v)∧w.cell? ⟨g,j*5+1,none⟩=some (U κ (T j).a)∧w.cell? ⟨g,j*5+2,none⟩=some (U κ (T j).p)∧w.cell? ⟨g,j*5+3,none⟩=some (U κ (T j).f)∧w.cell? ⟨g,j*5+4,none⟩=some (U κ (T j).r):=by
 obtain ⟨cs,hr,_,he⟩:=h
 obtain ⟨h0,h1,h2,h3,h4⟩:=he j hj
 exact ⟨(hr.cell _).trans h0,(hr.cell _).trans h1,(hr.cell _).trans h2,(hr.cell _).trans h3,(hr.cell _).trans h4⟩
end
theorem size_arr:(Tryz.prog.info? 86).map (·.size)=some 40:=by kernel_rfl
theorem IsBuf.arr {t:TypeId} {w:World} {b:Nat} {T:Nat→Ln} {fo mi:Int} (h:IsBuf t w b T fo mi) :
  ∃ A:Array Value,A.size=40∧IsLines (fun i=>A[i]?) 8 T∧∀ j v,A[j]? = some v→w.cell? ⟨b,j,none⟩=some v:=by
 obtain ⟨cs,hr,hs,hl,_⟩:=h
 refine ⟨cs.extract 0 40,by simp[hs],fun j hj=>?_,fun j v hv=>?_⟩
 ·obtain ⟨e0,e1,e2,e3,e4⟩:=hl j hj
  have q:∀ i,i<40→(cs.extract 0 40)[i]? = cs[i]?:=fun i hi=>by simp[hs,hi]
  simp (disch:=omega) only[q]
  exact ⟨e0,e1,e2,e3,e4⟩
 ·rw[hr.cell]
  have hj:j<40:=by
   rcases Nat.lt_or_ge j 40 with h' | h'
   ·exact h'
   ·rw[Array.getElem?_eq_none (by simp[hs];omega)] at hv;exact absurd hv (by simp)
  rw[←hv]
  simp[hs,hj]
theorem bh {P:Program} {ops:Array Oper} {rest:List Oper} {o:Oper} {a:Act} {w:World} {Q:Exit→Act→World→Prop} (hgd:o.guard=none) (ty:TypeId) (x:Operand) (ho:o.op=.load ty x)
  (g:Nat) (hx:a.eval x=π (some ⟨g,0,none⟩)) (cs:Array Value) (d:TypeDesc) (hc:∀ j v,cs[j]? = some v→w.cell? ⟨g,j,none⟩=some v)
  (hu:P.underlying ty=some d) (hd:(match d with | .struct _ | .array _ _=>true | _=>false)=true) (hi:(P.info? ty).map (·.size)=some cs.size)
  (h:wpList P ops Q rest (a.put o.dst (.agg cs)) w):wpList P ops Q (o :: rest) a w:=by
 refine wpList_plain hgd fun K hK=>?_
 have hl:(loadCells ⟨g,0,none⟩ cs.toList.length).run P w=.ok cs.toList.toArray w:=
  run_loadCells_list (P:=P) w ⟨g,0,none⟩ cs.toList (fun j v hv=>by
   rw[lh,Nat.zero_add]
   exact hc j v (by simpa using hv))
 have hv:(loadVar ty ⟨g,0,none⟩).run P w=.ok (.agg cs) w:=by
  cases hq:P.info? ty with
  | none=>simp[hq] at hi
  | some i =>
   have hs:i.size=cs.size:=by simpa [hq] using hi
   have hagg:(isAgg ty).run P w=.ok true w:=by
    unfold isAgg
    rw[Sem.run_bind,run_underlying hu w]
    cases d <;> simp_all
   simp only[Array.length_toList,Array.toArray_toList] at hl
   simp[loadVar,Sem.run_bind,hagg,sizeOf,typeInfo,hq,hs,hl]
 unfold Oper.wp execOp
 simp only[ho,hx,Instr.loadAt,Instr.sureAddr,Sem.run_bind,Sem.run_pure,Result.andThen_ok,hv]
 exact hK _ _ h
theorem index_line {A:Array Value} {T:Nat→Ln} (hA:A.size=40) (h:IsLines (fun i=>A[i]?) 8 T) (k:Nat) (hk:k<8) (w:World) :
  (Instr.index 86 (.agg A) (U κ (k:Int))).run pQ w=.ok (.agg #[U κ (T k).v,U κ (T k).a,U κ (T k).p,U κ (T k).f,U κ (T k).r]) w:=by
 obtain ⟨e0,e1,e2,e3,e4⟩:=h k hk
 have hx:A.extract (k*5) (k*5+5)=#[U κ (T k).v,U κ (T k).a,U κ (T k).p,U κ (T k).f,U κ (T k).r]:=by
  apply Array.ext_getElem?
  intro i
  rw[Array.getElem?_extract]
  rcases Nat.lt_or_ge i 5 with hi | hi
  ·rw[if_pos (by omega)]
   match i,hi with
   | 0,_=>simpa using e0
   | 1,_=>simpa using e1
   | 2,_=>simpa using e2
   | 3,_=>simpa using e3
   | 4,_=>simpa using e4
  ·rw[if_neg (by omega),Array.getElem?_eq_none (by simp;omega)]
 have hs:=ww
 cases hq:Tryz.prog.info? 85 with
 | none=>simp[hq] at hs
 | some i =>
  have hs':i.size=5:=by simpa [hq] using hs
  simp[Instr.index,asIntOf,Sem.run_bind,run_underlying Tryz.underlying86,part,isAgg,run_underlying Tryz.underlying85,sizeOf,typeInfo,hq,hs',hx]
  intro h8
  omega
end
abbrev jj:=IsBuf 122
abbrev gj:=IsBuf 88
theorem buf_zero (t:TypeId) (w:World):IsBuf t (w.alloc (ω (Array.replicate 42 (U κ 0)) t)) w.heap.size (fun _=>zl) 0 0:=by
 refine ⟨_,ba _ _ _,by simp,fun j hj=>?_,by simp,by simp⟩
 have h0:j*5<42:=by omega
 have h1:j*5+1<42:=by omega
 have h2:j*5+2<42:=by omega
 have h3:j*5+3<42:=by omega
 have h4:j*5+4<42:=by omega
 simp only[Array.getElem?_replicate,h0,h1,h2,h3,h4,if_true]
 exact ⟨rfl,rfl,rfl,rfl,rfl⟩
theorem tnew_any (w:World):Calls pQ 20 #[] w fun e w'=>∃ b,e=ρ (π (some ⟨b,0,none⟩))∧w.heap.size≤b∧Fr bg w w'∧jj w' b (fun _=>zl) 0 0:=by
 go_enter Tryz.func20,Tryz.ntmps20
 go_wp2
 go_ret
 exact ⟨_,rfl,Nat.le_refl _,(Fr.refl _ _).alloc _,buf_zero _ _⟩
theorem evict_in (w:World) (b:Nat) (T:Nat→Ln) (fo mi:Int) (h:jj w b T fo mi) (k:Nat) (hk:k<8) :
  Calls pQ 12 #[π (some ⟨b,0,none⟩),U κ (k:Int)] w fun e w'=>e=ρ (U κ 0)∧Fr (at' b) w w'∧jj w' b (upd T k zl) fo mi:=by
 have hb:inB (k:Int) 0 7=true:=inB_iff.mpr (by omega)
 obtain ⟨c0,c1,c2,c3,c4⟩:=h.cells k hk
 have g0:=h.frozen (k*5)
 have g1:=h.frozen (k*5+1)
 have g2:=h.frozen (k*5+2)
 have g3:=h.frozen (k*5+3)
 have g4:=h.frozen (k*5+4)
 have i1:0≤(k:Int)∧(k:Int)<8:=by omega
 go_enter Tryz.func12,Tryz.ntmps12
 go_wp2_with fail
 refine(yh _ _).mono ?_
 rintro e w1 ⟨rfl,rfl⟩
 rw[hb]
 go_wp2_with fail
 go_ret
 exact ⟨rfl,kr (l:=zl) (Fr.refl _ _) (Or.inr rfl),h.setLine hk zl⟩
theorem evict_out (w:World) (p:Value) (i:Int) (hi:inB i 0 7=false) :
  Calls pQ 12 #[p,U κ i] w fun e w'=>e=ρ (U κ 1)∧w'=w:=by
 go_enter Tryz.func12,Tryz.ntmps12
 go_wp2_with fail
 refine(yh _ _).mono ?_
 rintro e w1 ⟨rfl,rfl⟩
 rw[hi]
 go_wp2_with fail
 go_ret
 exact ⟨rfl,rfl⟩
theorem n6 (w:World) (b:Nat) (T:Nat→Ln) (fo mi v a p:Int) (h:jj w b T fo mi) (hfo:0≤fo∧fo<1000000) (hmi:0≤mi∧mi<1000000) :
  Calls pQ 156 #[π (some ⟨b,0,none⟩),U κ v,U κ a,U κ p] w fun e w' =>
   e=ρ (τ #[U κ (ansF T (idx T v a p 8)),U κ (wb T (idx T v a p 8)),β (ansB (idx T v a p 8))])∧Fr (at' b) w w'∧jj w' b T (fo+lj (idx T v a p 8)) (mi+li (idx T v a p 8)):=by
 obtain ⟨A,hA,hl,hc⟩:=h.arr
 have hB:b≠w.heap.size:=by have:=h.lt;omega
 have h0:=h.alloc (ω #[U κ v,U κ a,U κ p,U κ 0,U κ 0] 85)
 have f0:=(Fr.refl (at' b) w).alloc (ω #[U κ v,U κ a,U κ p,U κ 0,U κ 0] 85)
 have r0:=ba w #[U κ v,U κ a,U κ p,U κ 0,U κ 0] 85
 have hc0:∀ j v',A[j]? = some v'→(w.alloc (ω #[U κ v,U κ a,U κ p,U κ 0,U κ 0] 85)).cell? ⟨b,j,none⟩=some v':=fun j v' hv=>cd ((Fr.refl bg w).alloc _) (hc j v' hv) (fun h=>h)
 clear hc
 have heq:=eq_line
 go_enter Tryz.func156,Tryz.ntmps156
 go_wp2_with (refine bh rfl 86 _ rfl b rfl A _ hc0 Tryz.underlying86 rfl (by rw[hA];exact size_arr) ?_)
 go_loopw [22] (fun i wr=>∃ k:Nat,k≤8∧i=U κ k∧Fr bg w wr∧Row wr w.heap.size #[U κ v,U κ a,U κ p,U κ 0,U κ 0] 85∧jj wr b T fo mi∧Hid (∀ j,j<k→hit v a p (T j)=false)) (fun i _=>8-(intOf i).toNat)
 case atStart=>exact ⟨0,by omega,rfl,(Fr.refl bg w).alloc _,r0,h0,fun j hj=>by omega⟩
 case round =>
  clear h0 f0 r0 hc0
  obtain ⟨k,hk,rfl,fk,rk,hT,HK⟩:=hrel
  by_cases hlt:k<8
  ·have hix:=index_line hA hl k hlt
   have rk1:=rk.alloc (ω #[U κ (T k).v,U κ (T k).a,U κ (T k).p,U κ (T k).f,U κ (T k).r] 85)
   have rb:=ba wr #[U κ (T k).v,U κ (T k).a,U κ (T k).p,U κ (T k).f,U κ (T k).r] 85
   have hT1:=hT.alloc (ω #[U κ (T k).v,U κ (T k).a,U κ (T k).p,U κ (T k).f,U κ (T k).r] 85)
   have f1:=fk.alloc (ω #[U κ (T k).v,U κ (T k).a,U κ (T k).p,U κ (T k).f,U κ (T k).r] 85)
   have hbk:b≠wr.heap.size:=by have:=hT.lt;omega
   clear rk hT fk
   cases he:emp (T k) with
   | true =>
    go_wp2_with fail
    go_region_with (go_at_call 161;refine(tg (T k) _).mono ?_;rintro e w1 ⟨rfl,f2⟩;rw[he];(replace f2:=f2.undrew))
    all_goals (go_wp2_with fail)
    all_goals go_roundw
    all_goals first
     | exact ⟨k+1,by omega,by go_num,f1.trans f2,rk1.keep f2 (fun h=>h),hT1.keep f2 (fun h=>h),fun j hj=>by
       rcases Nat.lt_or_ge j k with h' | h'
       ·exact HK.out j h'
       ·obtain rfl:j=k:=by omega
        simp[hit,he]⟩
     | (simp[intOf];omega)
   | false =>
    cases hh:key (T k) ⟨v,a,p,0,0⟩ with
    | true =>
     have hit1:hit v a p (T k)=true:=by simp[hit,he,hh]
     have hidx:idx T v a p 8=k:=idx_at HK.out hit1 8 hlt
     have t1:((T k).v == v && ((T k).a == a && (T k).p == p))=true:=hh
     have hadd:(fo+1).bmod 18446744073709551616=fo+1:=by rw[Int.bmod_def];omega
     go_wp2_with fail
     go_region_with (first
      | (go_at_call 161;refine(tg (T k) _).mono ?_;rintro e w1 ⟨rfl,f2⟩;rw[he];(replace f2:=f2.undrew);(replace f1:=f1.trans f2);(replace rk1:=rk1.keep f2 (fun h=>h));(replace rb:=rb.keep f2 (fun h=>h));(replace hT1:=hT1.keep f2 (fun h=>h));clear f2;obtain ⟨c0,c1,c2,c3,c4⟩:=row5 rk1;obtain ⟨d0,d1,d2,d3,d4⟩:=row5 rb)
      | (go_at_call 169;refine(tq (T k) _).mono ?_;rintro e w2 ⟨rfl,f2⟩;(replace f1:=f1.trans f2);(replace rk1:=rk1.keep f2 (fun h=>h));(replace rb:=rb.keep f2 (fun h=>h));(replace hT1:=hT1.keep f2 (fun h=>h));clear f2 c0 c1 c2 c3 c4 d0 d1 d2 d3 d4;obtain ⟨c0,c1,c2,c3,c4⟩:=row5 rk1;obtain ⟨d0,d1,d2,d3,d4⟩:=row5 rb))
     all_goals have cf:=hT1.cfo
     all_goals have gf:=hT1.frozen 40
     all_goals have rc:=rb.setCell_other (p:=⟨b,40,none⟩) hbk (U κ (fo+1))
     all_goals have hT2:=hT1.setFo (fo+1)
     all_goals have f3:=(f1.mono (T:=at' b) (fun _ _ h=>h.elim)).setCell (p:=⟨b,40,none⟩) (Or.inr rfl) (U κ (fo+1))
     all_goals obtain ⟨x0,x1,x2,x3,x4⟩:=row5 rc
     all_goals clear c0 c1 c2 c3 c4 d0 d1 d2 d3 d4
     all_goals (go_wp2_with fail)
     all_goals (go_quiet (fail))
     all_goals (go_wp2_with fail)
     all_goals go_ret3
     all_goals rw[hidx]
     all_goals refine ⟨?_,f3.trans ((bo _ _).mono (fun _ _ h=>h.elim)),?_⟩
     all_goals first
      | rfl
      | (have e0:¬ (k:Int)<0:=by omega
         simp only[lj,li,decide_eq_false e0,cond_false,Int.add_zero]
         exact hT2.keep (bo _ _) (fun h=>h))
    | false =>
     have hit1:hit v a p (T k)=false:=by simp[hit,hh]
     have t1:((T k).v == v && ((T k).a == a && (T k).p == p))=false:=hh
     go_wp2_with fail
     go_region_with (first
      | (go_at_call 161;refine(tg (T k) _).mono ?_;rintro e w1 ⟨rfl,f2⟩;rw[he];(replace f2:=f2.undrew);(replace f1:=f1.trans f2);(replace rk1:=rk1.keep f2 (fun h=>h));(replace rb:=rb.keep f2 (fun h=>h));(replace hT1:=hT1.keep f2 (fun h=>h));clear f2;obtain ⟨c0,c1,c2,c3,c4⟩:=row5 rk1;obtain ⟨d0,d1,d2,d3,d4⟩:=row5 rb)
      | (go_at_call 169;refine(tq (T k) _).mono ?_;rintro e w2 ⟨rfl,f2⟩;(replace f1:=f1.trans f2);(replace rk1:=rk1.keep f2 (fun h=>h));(replace rb:=rb.keep f2 (fun h=>h));(replace hT1:=hT1.keep f2 (fun h=>h));clear f2 c0 c1 c2 c3 c4 d0 d1 d2 d3 d4;obtain ⟨c0,c1,c2,c3,c4⟩:=row5 rk1;obtain ⟨d0,d1,d2,d3,d4⟩:=row5 rb))
     all_goals (go_wp2_with fail)
     all_goals go_roundw
     all_goals first
      | exact ⟨k+1,by omega,by go_num,f1,rk1,hT1,fun j hj=>by
        rcases Nat.lt_or_ge j k with h' | h'
        ·exact HK.out j h'
        ·obtain rfl:j=k:=by omega
         exact hit1⟩
      | (simp[intOf];omega)
  ·obtain rfl:k=8:=by omega
   have hidx:idx T v a p 8=-1:=idx_none HK.out
   have cm:=hT.cmi
   have gm:=hT.frozen 41
   go_wp2_with fail
   go_ret3
   rw[hidx]
   refine ⟨rfl,(fk.mono (T:=at' b) (fun _ _ h=>h.elim)).setCell (p:=⟨b,41,none⟩) (Or.inr rfl) _,?_⟩
   simpa [lj,li] using hT.setMi (mi+1)
theorem lines_one {A:Array Value} {T:Nat→Ln} (hA:A.size=40) (h:IsLines (fun i=>A[i]?) 8 T):∀ v ∈ A.toList,v.oneCell'=true:=by
 intro v hv
 obtain ⟨i,hi⟩:=List.mem_iff_getElem?.mp hv
 have hv':A[i]? = some v:=by simpa using hi
 have hi':i<40:=by
  rcases Nat.lt_or_ge i 40 with h' | h'
  ·exact h'
  ·rw[Array.getElem?_eq_none (by omega)] at hv';exact absurd hv' (by simp)
 obtain ⟨e0,e1,e2,e3,e4⟩:=h (i / 5) (by omega)
 have hr:i=i / 5*5∨i=i / 5*5+1∨i=i / 5*5+2∨i=i / 5*5+3∨i=i / 5*5+4:=by omega
 rcases hr with hr | hr | hr | hr | hr <;> rw[hr] at hv'
 ·rw[show A[i / 5*5]? = _ from e0] at hv';cases hv';rfl
 ·rw[show A[i / 5*5+1]? = _ from e1] at hv';cases hv';rfl
 ·rw[show A[i / 5*5+2]? = _ from e2] at hv';cases hv';rfl
 ·rw[show A[i / 5*5+3]? = _ from e3] at hv';cases hv';rfl
 ·rw[show A[i / 5*5+4]? = _ from e4] at hv';cases hv';rfl
theorem info_line:(Tryz.prog.info? 85).map (fun i=>(i.zero,i.bytes,i.size))=some (some (.agg #[U κ 0,U κ 0,U κ 0,U κ 0,U κ 0]),40,5):=by kernel_rfl
theorem make_lines:∃ zs:Array Value,zs.size=40∧∀ w:World,(Instr.makeSlice 127 (U κ 8) (U κ 8)).run pQ w=.ok (.slice (some ⟨w.heap.size,0,none⟩) 8 8) (w.alloc (.cells zs 85)):=by
 have hi:=info_line
 cases hq:Tryz.prog.info? 85 with
 | none=>simp[hq] at hi
 | some i =>
  rw[hq] at hi
  simp only[Option.map_some,Option.some.injEq,Prod.mk.injEq] at hi
  obtain ⟨hz,hb,hs⟩:=hi
  refine ⟨madeCells #[U κ 0,U κ 0,U κ 0,U κ 0,U κ 0] (8*5),by rw[size_madeCells],fun w=>?_⟩
  have:=run_make (P:=pQ) w 127 85 i _ Tryz.underlying127 hq hz .i64 .i64 8 8 (by omega) (by omega) (by rw[hb];omega) (by omega)
  rw[this,hs]
  rfl
theorem copy_whole {w:World} (g b:Nat) (cur:Array Value) (t ty:TypeId) (hg:Row w g cur t) (hcur:cur.size=40) (A:Array Value) (hA:A.size=40)
  (hsrc:∀ j v,A[j]? = some v→w.cell? ⟨b,j,none⟩=some v) (h1:∀ v ∈ A.toList,v.oneCell'=true) :
  (Builtin.copy_ #[127,127] ty #[.slice (some ⟨g,0,none⟩) 8 8,.slice (some ⟨b,0,none⟩) 8 8]).run pQ w=.ok (U κ 8) (w.setRow g A):=by
 have hl:=run_loadCells_list (P:=pQ) w ⟨b,0,none⟩ A.toList (fun j v hv=>by
  rw[lh,Nat.zero_add]
  exact hsrc j v (by simpa using hv))
 have hst:=run_storeCells_at pQ g 0 t A.toList 0 cur w hg (by simp[hA,hcur]) h1
 have hsz:=ww
 cases hq:Tryz.prog.info? 85 with
 | none=>simp[hq] at hsz
 | some i =>
  have hi:i.size=5:=by simpa [hq] using hsz
  simp only[Array.length_toList,hA,Array.toArray_toList] at hl
  have hdr:List.drop 40 cur.toList=[]:=List.drop_eq_nil_of_le (by simp[hcur])
  simp[hA,hdr] at hst
  simp[Builtin.copy_,run_underlying Tryz.underlying127,Builtin.lenOf,Builtin.firstCells,sizeOf,typeInfo,hq,hi,hl,hst,goInt]
theorem Fr.setRow {S:Nat→Prop} {w w':World} (h:Fr S w w') {g:Nat} (hg:w.heap.size≤g∨S g) (cs:Array Value):Fr S w (w'.setRow g cs):=
 ⟨h.os,h.tape,h.output,by simpa [World.setRow] using h.size,fun k hk hn=>by
  rw[setRow_other w' g k cs (by rcases hg with hg | hg;omega;intro e;subst e;exact hn hg)];exact h.block k hk hn⟩
theorem lines_any (w:World) (b:Nat) (T:Nat→Ln) (fo mi:Int) (h:jj w b T fo mi) :
  Calls pQ 45 #[π (some ⟨b,0,none⟩)] w fun e w'=>∃ g,e=ρ (.slice (some ⟨g,0,none⟩) 8 8)∧w.heap.size≤g∧Fr bg w w'∧LineRow w' g 8 8 T:=by
 obtain ⟨A,hA,hl,hc⟩:=h.arr
 obtain ⟨zs,hzs,hmk⟩:=make_lines
 have r0:=ba w zs 85
 have f0:=(Fr.refl bg w).alloc (.cells zs 85)
 have hc0:∀ j v',A[j]? = some v'→(w.alloc (.cells zs 85)).cell? ⟨b,j,none⟩=some v':=fun j v' hv=>cd ((Fr.refl bg w).alloc _) (hc j v' hv) (fun h=>h)
 clear hc
 have hcp:=copy_whole w.heap.size b zs 85 3 r0 hzs A hA hc0 (lines_one hA hl)
 go_enter Tryz.func45,Tryz.ntmps45
 go_wp2_with fail
 go_ret
 exact ⟨_,rfl,Nat.le_refl _,f0.setRow (Or.inl (Nat.le_refl _)) _,A,setRow_heap _ _ _ _ _ _ r0,hA,hl⟩
end Go.Proofs.YtibhbjbpodlpiaaGreat
