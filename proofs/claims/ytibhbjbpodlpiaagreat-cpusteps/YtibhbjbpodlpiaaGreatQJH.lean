/-
  Contracts over the translation. No statement is proved here.
-/
import Derived.WalkKit
import Derived.WalkSpells
import Derived.WalkLawsBesides
import Derived.BigQuiet
import Derived.Deep.QuietTactic
import Derived.Laws.StructEq
import Derived.Laws.ResultCell
import Derived.Laws.Rows
import Derived.Shelf.Abstract
import Derived.Maps.OwnSet
import Derived.Maps.RangeWalk
import Derived.Carry
import Derived.Deep.RegionHeld3
import Derived.Test.YtibhbjbpodlpiaaGreatQJA
set_option maxRecDepth 100000
set_option maxHeartbeats 8000000
namespace Go.Proofs.YtibhbjbpodlpiaaGreat
open Go.RowKit
open Go.Value renaming int → U, bool → β, pointer → π, tuple → τ
open Go.IntKind renaming i64 → κ, u32 → μ
open Go.Obj renaming cells → ω
open Go.Ending renaming returned → ρ
open Go.Proofs.Tryz renaming prog → pQ
structure Vg where
 pe:Nat→Option (Int×Bool)
 ac:Nat→Option (Int×Bool)
 off:Nat→Bool
 mask:Int
 lrs:Int
 inj:Int
 ack:Int
 en:Int
def pj (f:Nat→Option (Int×Bool)) (k:Nat) (o:Option (Int×Bool)):Nat→Option (Int×Bool):=fun j=>if j=k then o else f j
def setB (f:Nat→Bool) (k:Nat) (o:Bool):Nat→Bool:=fun j=>if j=k then o else f j
theorem km (f:Nat→Option (Int×Bool)) (k:Nat) (o:Option (Int×Bool)):pj f k o k=o:=by simp[pj]
theorem ju (f:Nat→Option (Int×Bool)) {k j:Nat} (o:Option (Int×Bool)) (h:j≠k):pj f k o j=f j:=by simp[pj,h]
def po (lrs:Int):Vg:=⟨fun _=>none,fun _=>none,fun _=>false,256,lrs,0,0,0⟩
def GoodF (f:Nat→Option (Int×Bool)):Prop:=∀ j p l,f j=some (p,l)→j<64∧0≤p∧p≤255
structure v_Good (S:Vg):Prop where
 pe:GoodF S.pe
 ac:GoodF S.ac
 mask:0≤S.mask∧S.mask≤256
 lrs:1≤S.lrs∧S.lrs≤16
theorem wn {lrs:Int} (h:1≤lrs∧lrs≤16):v_Good (po lrs):=⟨fun _ _ _ h=>by simp[po] at h,fun _ _ _ h=>by simp[po] at h,by simp[po],h⟩
theorem mc {f:Nat→Option (Int×Bool)} (h:GoodF f) (k:Nat) (o:Option (Int×Bool)) (ho:∀ p l,o=some (p,l)→k<64∧0≤p∧p≤255):GoodF (pj f k o):=by
 intro j p l hj
 by_cases e:j=k
 ·subst e;rw[km] at hj;exact ho p l hj
 ·rw[ju _ _ e] at hj;exact h j p l hj
def isI (n:Int):Bool:=decide (0≤n) && decide (n≤63)
def v_isP (n:Int):Bool:=decide (0≤n) && decide (n≤255)
def isM (n:Int):Bool:=decide (0≤n) && decide (n≤256)
theorem isI_iff {n:Int}:isI n=true ↔ 0≤n∧n≤63:=by simp[isI]
theorem v_isP_iff {n:Int}:v_isP n=true ↔ 0≤n∧n≤255:=by simp[v_isP]
theorem isM_iff {n:Int}:isM n=true ↔ 0≤n∧n≤256:=by simp[isM]
theorem isI_nat {n:Int} (h:isI n=true):∃ k:Nat,n=(k:Int)∧k<64:=⟨n.toNat,by have:=isI_iff.mp h;omega,by have:=isI_iff.mp h;omega⟩
def inc (x:Int):Int:=Go.RowKit.wrap64 (x+1)
def pOf (o:Option (Int×Bool)):Int:=(o.getD (0,false)).1
def lOf (o:Option (Int×Bool)):Bool:=(o.getD (0,false)).2
def injE (S:Vg) (n p:Int):Int:=bif isI n && v_isP p then(bif (S.pe n.toNat).isSome then 80 else 0) else 1
def injS (S:Vg) (n p:Int) (l:Bool):Vg:=
 bif isI n && v_isP p then(bif (S.pe n.toNat).isSome then S else { S with pe:=pj S.pe n.toNat (some (p,l)),inj:=inc S.inj }) else S
def enaE (n:Int):Int:=bif isI n then 0 else 1
def enaS (S:Vg) (n:Int) (on:Bool):Vg:=bif isI n then { S with off:=setB S.off n.toNat (!on) } else S
def masE (m:Int):Int:=bif isM m then 0 else 1
def masS (S:Vg) (m:Int):Vg:=bif isM m then { S with mask:=m } else S
def pw (S:Vg):Nat→Int
 | 0=>256
 | k+1=>match S.ac k with
  | some (p,_)=>min (pw S k) p
  | none=>pw S k
def run (S:Vg):Int:=pw S 64
def cand (S:Vg) (k:Nat):Option Int:=match S.pe k,S.ac k,S.off k with
 | some (p,_),none,false=>some p
 | _,_,_=>none
def kx (S:Vg) (bd:Int):Nat→Option Nat×Int
 | 0=>(none,bd)
 | k+1=>match cand S k with
  | some p=>if p<(kx S bd k).2 then(some k,p) else kx S bd k
  | none=>kx S bd k
def mw (S:Vg):Option Nat:=(kx S (min S.mask (run S)) 64).1
def wi (S:Vg):Int:=match mw S with
 | some k=>(k:Int)
 | none=>1023
def ackS (S:Vg):Vg:=match mw S with
 | some k=>{ S with pe:=pj S.pe k none,ac:=pj S.ac k (S.pe k),ack:=inc S.ack }
 | none=>S
def endF (S:Vg) (n:Int):Bool:=bif isI n then lOf (S.ac n.toNat) else false
def endE (S:Vg) (n:Int):Int:=bif isI n then(bif (S.ac n.toNat).isSome then 0 else 70) else 1
def endS (S:Vg) (n:Int):Vg:=bif isI n then(bif (S.ac n.toNat).isSome then { S with ac:=pj S.ac n.toNat none,en:=inc S.en } else S) else S
def stepS (d n p:Int) (on:Bool) (S:Vg):Vg:=
 if d=1 then injS S n p on else if d=2 then enaS S n on else if d=3 then masS S p else if d=4 then ackS S else if d=5 then endS S n else S
def ansN (d:Int) (S:Vg):Int:=if d=4 then wi S else 0
def v_ansF (d n:Int) (S:Vg):Bool:=if d=5 then endF S n else false
def ansE (d n p:Int) (S:Vg):Int:=if d=1 then injE S n p else if d=2 then enaE n else if d=3 then masE p else if d=5 then endE S n else 0
theorem runN_le (S:Vg) (n:Nat):pw S n≤256∧∀ j p l,j<n→S.ac j=some (p,l)→pw S n≤p:=by
 induction n with
 | zero=>exact ⟨by simp[pw],fun j p l hj=>by omega⟩
 | succ k ih =>
  cases hk:S.ac k with
  | none =>
   have e:pw S (k+1)=pw S k:=by simp only[pw,hk]
   rw[e]
   refine ⟨ih.1,fun j p l hj hp=>?_⟩
   by_cases ej:j=k
   ·subst ej;rw[hk] at hp;cases hp
   ·exact ih.2 j p l (by omega) hp
  | some q =>
   obtain ⟨q,lq⟩:=q
   have e:pw S (k+1)=min (pw S k) q:=by simp only[pw,hk]
   rw[e]
   refine ⟨by have:=ih.1;omega,fun j p l hj hp=>?_⟩
   by_cases ej:j=k
   ·subst ej;rw[hk] at hp;cases hp;omega
   ·have:=ih.2 j p l (by omega) hp;omega
theorem runN_is (S:Vg) (n:Nat):pw S n=256∨∃ j p l,j<n∧S.ac j=some (p,l)∧pw S n=p:=by
 induction n with
 | zero=>exact Or.inl rfl
 | succ k ih =>
  cases hk:S.ac k with
  | none =>
   have e:pw S (k+1)=pw S k:=by simp only[pw,hk]
   rw[e]
   rcases ih with ih | ⟨j,p,l,hj,hp,ih⟩
   ·exact Or.inl ih
   ·exact Or.inr ⟨j,p,l,by omega,hp,ih⟩
  | some q =>
   obtain ⟨q,lq⟩:=q
   have e:pw S (k+1)=min (pw S k) q:=by simp only[pw,hk]
   rw[e]
   by_cases h:pw S k≤q
   ·rw[Int.min_eq_left h]
    rcases ih with ih | ⟨j,p,l,hj,hp,ih⟩
    ·exact Or.inl ih
    ·exact Or.inr ⟨j,p,l,by omega,hp,ih⟩
   ·exact Or.inr ⟨k,q,lq,by omega,hk,by omega⟩
theorem run_eq {S:Vg} (hg:GoodF S.ac) {x:Int} (h1:x≤256) (h2:∀ j p l,S.ac j=some (p,l)→x≤p) (h3:x=256∨∃ j p l,S.ac j=some (p,l)∧x=p):x=run S:=by
 have a:=runN_le S 64
 rcases runN_is S 64 with e | ⟨j,p,l,hj,hp,e⟩
 ·rcases h3 with h3 | ⟨j,p,l,hp,h3⟩
  ·show x=pw S 64;omega
  ·have:=a.2 j p l (hg j p l hp).1 hp;show x=pw S 64;omega
 ·have b:=h2 j p l hp
  rcases h3 with h3 | ⟨j',p',l',hp',h3⟩
  ·show x=pw S 64;omega
  ·have:=a.2 j' p' l' (hg j' p' l' hp').1 hp';show x=pw S 64;omega
theorem cand_is {S:Vg} {k:Nat} {p:Int}:cand S k=some p ↔ (∃ l,S.pe k=some (p,l))∧S.ac k=none∧S.off k=false:=by
 unfold cand
 constructor
 ·intro h
  split at h
  ·rename_i q l h1 h2 h3
   cases h
   exact ⟨⟨l,h1⟩,h2,h3⟩
  ·cases h
 ·rintro ⟨⟨l,h1⟩,h2,h3⟩
  simp[h1,h2,h3]
theorem qg (S:Vg) (bd:Int) (n:Nat):(∀ j q,j<n→cand S j=some q→(kx S bd n).2≤q) ∧
  ((kx S bd n).1=none→(kx S bd n).2=bd) ∧
  (∀ k,(kx S bd n).1=some k→k<n∧cand S k=some (kx S bd n).2∧(kx S bd n).2<bd∧∀ j q,j<k→cand S j=some q→(kx S bd n).2<q):=by
 induction n with
 | zero=>exact ⟨fun j q hj=>by omega,fun _=>rfl,fun k hk=>by simp[kx] at hk⟩
 | succ n ih =>
  obtain ⟨i1,i2,i3⟩:=ih
  cases hc:cand S n with
  | none =>
   have e:kx S bd (n+1)=kx S bd n:=by simp only[kx,hc]
   rw[e]
   refine ⟨fun j q hj hq=>?_,i2,fun k hk=>?_⟩
   ·by_cases ej:j=n
    ·subst ej;rw[hc] at hq;cases hq
    ·exact i1 j q (by omega) hq
   ·obtain ⟨a,b⟩:=i3 k hk;exact ⟨by omega,b⟩
  | some p =>
   by_cases hp:p<(kx S bd n).2
   ·have e:kx S bd (n+1)=(some n,p):=by simp only[kx,hc,if_pos hp]
    rw[e]
    have hb:(kx S bd n).2≤bd:=by
     cases hn:(kx S bd n).1 with
     | none=>rw[i2 hn];omega
     | some k=>have:=(i3 k hn).2.2.1;omega
    refine ⟨fun j q hj hq=>?_,fun h=>by simp at h,fun k hk=>?_⟩
    ·show p≤q
     by_cases ej:j=n
     ·subst ej;rw[hc] at hq;cases hq;omega
     ·have:=i1 j q (by omega) hq;omega
    ·simp only[Option.some.injEq] at hk
     subst hk
     refine ⟨by omega,hc,by show p<bd;omega,fun j q hj hq=>?_⟩
     have:=i1 j q hj hq
     show p<q
     omega
   ·have e:kx S bd (n+1)=kx S bd n:=by simp only[kx,hc,if_neg hp]
    rw[e]
    refine ⟨fun j q hj hq=>?_,i2,fun k hk=>?_⟩
    ·by_cases ej:j=n
     ·subst ej;rw[hc] at hq;cases hq;omega
     ·exact i1 j q (by omega) hq
    ·obtain ⟨a,b⟩:=i3 k hk;exact ⟨by omega,b⟩
theorem next_lt {S:Vg} {k:Nat} (h:mw S=some k):k<64:=((qg S _ 64).2.2 k h).1
theorem wm {S:Vg} {k:Nat} (h:mw S=some k):∃ p l,S.pe k=some (p,l)∧S.ac k=none∧S.off k=false∧p<S.mask∧p<run S∧∀ j q,j<64→cand S j=some q→p<q∨(p=q∧k≤j):=by
 obtain ⟨h1,_,h3⟩:=qg S (min S.mask (run S)) 64
 obtain ⟨a,b,c,d⟩:=h3 k h
 obtain ⟨⟨l,hl⟩,h4,h5⟩:=cand_is.mp b
 refine ⟨_,l,hl,h4,h5,by omega,by omega,fun j q hj hq=>?_⟩
 have e1:=h1 j q hj hq
 by_cases hjk:j<k
 ·exact Or.inl (d j q hjk hq)
 ·omega
structure Lr where
 id:Int
 p:Int
 lv:Bool
 pe:Bool
 ac:Bool
 deriving DecidableEq,Inhabited
def reg (S:Vg) (k:Nat):Lr:=match S.ac k with
 | some (p,l)=>⟨k,p,l,(S.pe k).isSome,true⟩
 | none=>match S.pe k with
  | some (p,l)=>⟨k,p,l,true,false⟩
  | none=>⟨k,0,false,false,false⟩
def here (S:Vg) (k:Nat):Bool:=(S.pe k).isSome || (S.ac k).isSome
theorem reg_id (S:Vg) (k:Nat):(reg S k).id=k:=by
 unfold reg
 cases S.ac k with
 | some q=>rfl
 | none=>cases S.pe k <;> rfl
theorem reg_ac (S:Vg) (k:Nat):(reg S k).ac=(S.ac k).isSome:=by
 unfold reg
 cases h:S.ac k with
 | some q=>rfl
 | none=>cases S.pe k <;> rfl
theorem reg_pe (S:Vg) (k:Nat):(reg S k).pe=(S.pe k).isSome:=by
 unfold reg
 cases h:S.ac k with
 | some q=>rfl
 | none=>cases S.pe k <;> rfl
def kq (S:Vg):Nat→List Lr
 | 0=>[]
 | k+1=>kq S k ++ (if here S k then [reg S k] else [])
def inA (S:Vg) (p:Nat):Nat→List Lr
 | 0=>[]
 | k+1=>inA S p k ++ (match S.ac k with
  | some (q,_)=>if q=(p:Int) then [reg S k] else []
  | none=>[])
def q7 (S:Vg) (p:Nat):Nat→List Lr
 | 0=>[]
 | k+1=>q7 S p k ++ (match S.ac k,S.pe k with
  | none,some (q,_)=>if q=(p:Int) then [reg S k] else []
  | _,_=>[])
def outA (S:Vg):Nat→List Lr
 | 0=>[]
 | p+1=>outA S p ++ inA S p 64
def outP (S:Vg):Nat→List Lr
 | 0=>[]
 | p+1=>outP S p ++ q7 S p 64
def allL (S:Vg):List Lr:=outA S 256 ++ outP S 256
def ltr (x y:Lr):Prop:=(x.ac=true∧y.ac=false)∨(x.ac=y.ac∧(x.p<y.p∨(x.p=y.p∧x.id<y.id)))
theorem mem_inA (S:Vg) (p n:Nat) (x:Lr):x ∈ inA S p n ↔ ∃ k l,k<n∧S.ac k=some ((p:Int),l)∧x=reg S k:=by
 induction n with
 | zero=>simp[inA]
 | succ n ih =>
  simp only[inA,List.mem_append,ih]
  constructor
  ·rintro (⟨k,l,hk,h⟩ | h)
   ·exact ⟨k,l,by omega,h⟩
   ·cases hc:S.ac n with
    | none=>rw[hc] at h;simp at h
    | some q =>
     obtain ⟨q,l⟩:=q
     rw[hc] at h
     by_cases e:q=(p:Int)
     ·subst e;simp at h;exact ⟨n,l,by omega,hc,h⟩
     ·simp[e] at h
  ·rintro ⟨k,l,hk,h,rfl⟩
   by_cases e:k=n
   ·subst e;right;rw[h];simp
   ·exact Or.inl ⟨k,l,by omega,h,rfl⟩
theorem mem_inP (S:Vg) (p n:Nat) (x:Lr):x ∈ q7 S p n ↔ ∃ k l,k<n∧S.ac k=none∧S.pe k=some ((p:Int),l)∧x=reg S k:=by
 induction n with
 | zero=>simp[q7]
 | succ n ih =>
  simp only[q7,List.mem_append,ih]
  constructor
  ·rintro (⟨k,l,hk,h⟩ | h)
   ·exact ⟨k,l,by omega,h⟩
   ·cases hc:S.ac n with
    | some q=>rw[hc] at h;simp at h
    | none =>
     rw[hc] at h
     cases hp:S.pe n with
     | none=>rw[hp] at h;simp at h
     | some q =>
      obtain ⟨q,l⟩:=q
      rw[hp] at h
      by_cases e:q=(p:Int)
      ·subst e;simp at h;exact ⟨n,l,by omega,hc,hp,h⟩
      ·simp[e] at h
  ·rintro ⟨k,l,hk,h,h',rfl⟩
   by_cases e:k=n
   ·subst e;right;rw[h,h'];simp
   ·exact Or.inl ⟨k,l,by omega,h,h',rfl⟩
theorem mem_outA (S:Vg) (n:Nat) (x:Lr):x ∈ outA S n ↔ ∃ p k l,p<n∧k<64∧S.ac k=some ((p:Int),l)∧x=reg S k:=by
 induction n with
 | zero=>simp[outA]
 | succ n ih =>
  simp only[outA,List.mem_append,ih,mem_inA]
  constructor
  ·rintro (⟨p,k,l,hp,h⟩ | ⟨k,l,hk,h⟩)
   ·exact ⟨p,k,l,by omega,h⟩
   ·exact ⟨n,k,l,by omega,hk,h⟩
  ·rintro ⟨p,k,l,hp,hk,h⟩
   by_cases e:p=n
   ·subst e;exact Or.inr ⟨k,l,hk,h⟩
   ·exact Or.inl ⟨p,k,l,by omega,hk,h⟩
theorem mem_outP (S:Vg) (n:Nat) (x:Lr):x ∈ outP S n ↔ ∃ p k l,p<n∧k<64∧S.ac k=none∧S.pe k=some ((p:Int),l)∧x=reg S k:=by
 induction n with
 | zero=>simp[outP]
 | succ n ih =>
  simp only[outP,List.mem_append,ih,mem_inP]
  constructor
  ·rintro (⟨p,k,l,hp,h⟩ | ⟨k,l,hk,h⟩)
   ·exact ⟨p,k,l,by omega,h⟩
   ·exact ⟨n,k,l,by omega,hk,h⟩
  ·rintro ⟨p,k,l,hp,hk,h⟩
   by_cases e:p=n
   ·subst e;exact Or.inr ⟨k,l,hk,h⟩
   ·exact Or.inl ⟨p,k,l,by omega,hk,h⟩
theorem xt (S:Vg) (n:Nat) (x:Lr):x ∈ kq S n ↔ ∃ k,k<n∧here S k=true∧x=reg S k:=by
 induction n with
 | zero=>simp[kq]
 | succ n ih =>
  simp only[kq,List.mem_append,ih]
  constructor
  ·rintro (⟨k,hk,h⟩ | h)
   ·exact ⟨k,by omega,h⟩
   ·by_cases e:here S n=true
    ·simp[e] at h;exact ⟨n,by omega,e,h⟩
    ·simp[e] at h
  ·rintro ⟨k,hk,h,rfl⟩
   by_cases e:k=n
   ·subst e;right;simp[h]
   ·exact Or.inl ⟨k,by omega,h,rfl⟩
theorem mem_allL {S:Vg} (g:v_Good S) (x:Lr):x ∈ allL S ↔ ∃ k,k<64∧here S k=true∧x=reg S k:=by
 simp only[allL,List.mem_append,mem_outA,mem_outP]
 constructor
 ·rintro (⟨p,k,l,_,hk,h,rfl⟩ | ⟨p,k,l,_,hk,_,h,rfl⟩)
  ·exact ⟨k,hk,by simp[here,h],rfl⟩
  ·exact ⟨k,hk,by simp[here,h],rfl⟩
 ·rintro ⟨k,hk,h,rfl⟩
  cases ha:S.ac k with
  | some q =>
   obtain ⟨q,l⟩:=q
   have:=g.ac k q l ha
   exact Or.inl ⟨q.toNat,k,l,by omega,hk,by rw[ha,show((q.toNat:Nat):Int)=q by omega],rfl⟩
  | none =>
   cases hp:S.pe k with
   | none=>simp[here,ha,hp] at h
   | some q =>
    obtain ⟨q,l⟩:=q
    have:=g.pe k q l hp
    exact Or.inr ⟨q.toNat,k,l,by omega,hk,ha,by rw[hp,show((q.toNat:Nat):Int)=q by omega],rfl⟩
theorem su {S:Vg} {k:Nat} {p:Int} {l:Bool} (h:S.ac k=some (p,l)):reg S k=⟨k,p,l,(S.pe k).isSome,true⟩:=by simp only[reg,h]
theorem sv {S:Vg} {k:Nat} {p:Int} {l:Bool} (h:S.ac k=none) (h':S.pe k=some (p,l)):reg S k=⟨k,p,l,true,false⟩:=by simp only[reg,h,h']
theorem sorted_inA (S:Vg) (p n:Nat):(inA S p n).Pairwise ltr:=by
 induction n with
 | zero=>exact List.Pairwise.nil
 | succ n ih =>
  simp only[inA,List.pairwise_append]
  refine ⟨ih,?_,?_⟩
  ·cases S.ac n with
   | none=>exact List.Pairwise.nil
   | some q=>simp only;split <;> simp
  ·intro x hx y hy
   obtain ⟨k,l,hk,h,rfl⟩:=(mem_inA S p n x).mp hx
   cases hc:S.ac n with
   | none=>rw[hc] at hy;simp at hy
   | some q =>
    obtain ⟨q,l'⟩:=q
    rw[hc] at hy
    by_cases e:q=(p:Int)
    ·subst e
     simp at hy
     subst hy
     rw[su h,su hc]
     exact Or.inr ⟨rfl,Or.inr ⟨rfl,by show(k:Int)<(n:Int);omega⟩⟩
    ·simp[e] at hy
theorem sorted_inP (S:Vg) (p n:Nat):(q7 S p n).Pairwise ltr:=by
 induction n with
 | zero=>exact List.Pairwise.nil
 | succ n ih =>
  simp only[q7,List.pairwise_append]
  refine ⟨ih,?_,?_⟩
  ·split
   ·split <;> simp
   ·exact List.Pairwise.nil
  ·intro x hx y hy
   obtain ⟨k,l,hk,h,h',rfl⟩:=(mem_inP S p n x).mp hx
   cases hc:S.ac n with
   | some q=>rw[hc] at hy;simp at hy
   | none =>
    cases hp:S.pe n with
    | none=>rw[hc,hp] at hy;simp at hy
    | some q =>
     obtain ⟨q,l'⟩:=q
     rw[hc,hp] at hy
     by_cases e:q=(p:Int)
     ·subst e
      simp at hy
      subst hy
      rw[sv h h',sv hc hp]
      exact Or.inr ⟨rfl,Or.inr ⟨rfl,by show(k:Int)<(n:Int);omega⟩⟩
     ·simp[e] at hy
theorem sorted_outA (S:Vg) (n:Nat):(outA S n).Pairwise ltr:=by
 induction n with
 | zero=>exact List.Pairwise.nil
 | succ n ih =>
  simp only[outA,List.pairwise_append]
  refine ⟨ih,sorted_inA S n 64,?_⟩
  intro x hx y hy
  obtain ⟨p,k,l,hp,_,h,rfl⟩:=(mem_outA S n x).mp hx
  obtain ⟨k',l',_,h',rfl⟩:=(mem_inA S n 64 y).mp hy
  rw[su h,su h']
  exact Or.inr ⟨rfl,Or.inl (by show(p:Int)<(n:Int);omega)⟩
theorem sorted_outP (S:Vg) (n:Nat):(outP S n).Pairwise ltr:=by
 induction n with
 | zero=>exact List.Pairwise.nil
 | succ n ih =>
  simp only[outP,List.pairwise_append]
  refine ⟨ih,sorted_inP S n 64,?_⟩
  intro x hx y hy
  obtain ⟨p,k,l,hp,_,h,h1,rfl⟩:=(mem_outP S n x).mp hx
  obtain ⟨k',l',_,h',h2,rfl⟩:=(mem_inP S n 64 y).mp hy
  rw[sv h h1,sv h' h2]
  exact Or.inr ⟨rfl,Or.inl (by show(p:Int)<(n:Int);omega)⟩
theorem wu (S:Vg):(allL S).Pairwise ltr:=by
 simp only[allL,List.pairwise_append]
 refine ⟨sorted_outA S 256,sorted_outP S 256,?_⟩
 intro x hx y hy
 obtain ⟨p,k,l,hp,_,h,rfl⟩:=(mem_outA S 256 x).mp hx
 obtain ⟨p',k',l',_,_,h',h2,rfl⟩:=(mem_outP S 256 y).mp hy
 rw[su h,sv h' h2]
 exact Or.inl ⟨rfl,rfl⟩
theorem ltr_irr (x:Lr):¬ ltr x x:=by rintro (⟨h,h'⟩ | ⟨_,h | ⟨_,h⟩⟩);rw[h] at h';cases h';omega;omega
theorem ltr_asym {x y:Lr} (h:ltr x y) (h':ltr y x):False:=by
 rcases h with ⟨a,b⟩ | ⟨a,b⟩ <;> rcases h' with ⟨c,d⟩ | ⟨c,d⟩
 ·rw[a] at d;cases d
 ·rw[a,b] at c;cases c
 ·rw[c,d] at a;cases a
 ·omega
theorem sorted_eq:∀ {l l':List Lr},l.Pairwise ltr→l'.Pairwise ltr→(∀ x,x ∈ l ↔ x ∈ l')→l=l'
 | [],[],_,_,_=>rfl
 | [],y :: l',_,_,h=>by have:=(h y).mpr (by simp);simp at this
 | x :: l,[],_,_,h=>by have:=(h x).mp (by simp);simp at this
 | x :: l,y :: l',hp,hq,h=>by
  obtain ⟨p1,p2⟩:=List.pairwise_cons.mp hp
  obtain ⟨q1,q2⟩:=List.pairwise_cons.mp hq
  obtain rfl:x=y:=by
   rcases List.mem_cons.mp ((h x).mp (by simp)) with e | e
   ·exact e
   ·rcases List.mem_cons.mp ((h y).mpr (by simp)) with e' | e'
    ·exact e'.symm
    ·exact(ltr_asym (q1 x e) (p1 y e')).elim
  congr 1
  refine sorted_eq p2 q2 fun z=>⟨fun hz=>?_,fun hz=>?_⟩
  ·rcases List.mem_cons.mp ((h z).mp (by simp[hz])) with e | e
   ·subst e;exact(ltr_irr _ (p1 _ hz)).elim
   ·exact e
  ·rcases List.mem_cons.mp ((h z).mpr (by simp[hz])) with e | e
   ·subst e;exact(ltr_irr _ (q1 _ hz)).elim
   ·exact e
theorem base_apart (S:Vg) (n:Nat):(kq S n).Pairwise (fun x y=>x.id≠y.id):=by
 induction n with
 | zero=>exact List.Pairwise.nil
 | succ n ih =>
  simp only[kq,List.pairwise_append]
  refine ⟨ih,by split <;> simp,?_⟩
  intro x hx y hy
  obtain ⟨k,hk,_,rfl⟩:=(xt S n x).mp hx
  by_cases e:here S n=true
  ·simp[e] at hy
   subst hy
   rw[reg_id,reg_id]
   omega
  ·simp[e] at hy
theorem tn {S:Vg} (g:v_Good S) {l:List Lr} (hp:l.Perm (kq S 64)) (hs:l.Pairwise (fun x y=>¬ ltr y x)):l=allL S:=by
 refine sorted_eq ?_ (wu S) fun x=>?_
 ·have ha:l.Pairwise (fun x y=>x.id≠y.id):=(hp.pairwise_iff (fun {_ _} h=>Ne.symm h)).mpr (base_apart S 64)
  refine(hs.and ha).imp ?_
  rintro x y ⟨h,hne⟩
  have hn:¬ ltr y x:=h
  unfold ltr at hn ⊢
  cases hx:x.ac <;> cases hy:y.ac <;> simp only[hx,hy] at hn ⊢ <;> simp at hn ⊢ <;> omega
 ·rw[hp.mem_iff,xt,mem_allL g]
theorem len_base (S:Vg) (n:Nat):(kq S n).length≤n:=by
 induction n with
 | zero=>simp[kq]
 | succ n ih=>simp only[kq,List.length_append];split <;> simp <;> omega
theorem len_all {S:Vg} (g:v_Good S):(allL S).length≤64:=by
 have h:(allL S).Perm (kq S 64):=by
  rw[List.perm_ext_iff_of_nodup]
  ·intro x;rw[mem_allL g,xt]
  ·exact(wu S).imp (fun {x y} h e=>by subst e;exact ltr_irr _ h)
  ·exact(base_apart S 64).imp (fun {x y} h e=>by subst e;exact h rfl)
 rw[h.length_eq]
 exact len_base S 64
section
open Go.RowKit Go.Maps Go.WideMaps
theorem Fr.undrewVg {S:Nat→Prop} {w w':World} (h:Fr S w.drew w'):Fr S w w':=⟨h.os,h.tape,h.output,h.size,h.block⟩
theorem nm {w w':World} {row:Option Nat} (h:w.grownBy w' row):Fr (fun k=>some k=row) w w':=
 ⟨h.os,h.tape,h.output,h.size,fun k hk hn=>h.block k hk hn⟩
theorem fr_map {w w':World} {b:Nat} (h:w.grownBy w' (some b)):Fr (at' b) w w':=(nm h).mono (fun k _ e=>(Option.some.inj e:k=b))
theorem fr_grown0 {w w':World} (h:w.grownBy w' none):Fr bg w w':=(nm h).mono (fun k _ e=>by cases e)
theorem j9 {fn:Func} {R:Ending→World→Prop} {a:Act} {w:World} (hd:a.defers=[]) (hr:fn.results=#[]) (h:∀ v,R (.returned v) w):bodyPost pQ fn R .normal a w:=
 ⟨hd,.tuple #[],by simp[results,hr],h _⟩
def gd (p:Int) (l:Bool):DataW Unit:=.agg [.lit (.int .i64 p),.lit (.bool l)]
def gCs (l:List Value):Option (DataW Unit×List MemPlace):=match l with
 | [.int .i64 p,.bool l]=>some (gd p l,[])
 | _=>none
def gEl (v:Value):Option (DataW Unit×List MemPlace):=match v with
 | .agg cs=>gCs cs.toList
 | _=>none
theorem gEl_mk (p:Int) (l:Bool):gEl (.agg #[.int .i64 p,.bool l])=some (gd p l,[]):=rfl
theorem gEl_inv {v:Value} {y:DataW Unit×List MemPlace} (h:gEl v=some y):∃ p l,v=.agg #[.int .i64 p,.bool l]∧y=(gd p l,[]):=by
 unfold gEl at h
 split at h
 ·rename_i cs
  unfold gCs at h
  split at h
  ·rename_i p l e
   cases h
   exact ⟨p,l,by rw[show cs=#[.int .i64 p,.bool l] from by rw[←e]],rfl⟩
  ·cases h
 ·cases h
theorem gd_inj {p q:Int} {l m:Bool} (h:gd p l=gd q m):p=q∧l=m:=by
 simp only[gd,DataW.agg.injEq,List.cons.injEq,DataW.lit.injEq,Lit.int.injEq,Lit.bool.injEq,true_and,and_true] at h
 exact h
def wo (f:Nat→Option (Int×Bool)):Nat→Nat
 | 0=>0
 | k+1=>wo f k+if (f k).isSome then 1 else 0
theorem cnt_le (f:Nat→Option (Int×Bool)) (n:Nat):wo f n≤n:=by
 induction n with
 | zero=>simp[wo]
 | succ k ih=>simp only[wo];split <;> omega
theorem cnt_set (f:Nat→Option (Int×Bool)) (k:Nat) (o:Option (Int×Bool)) (n:Nat) :
  wo (pj f k o) n+(if k<n∧(f k).isSome=true then 1 else 0)=wo f n+(if k<n∧o.isSome=true then 1 else 0):=by
 induction n with
 | zero=>simp[wo]
 | succ n ih =>
  simp only[wo]
  by_cases e:k=n
  ·subst e
   rw[km]
   simp at ih ⊢
   cases (f k).isSome <;> cases o.isSome <;> simp <;> omega
  ·rw[ju _ _ (fun h=>e h.symm)]
   have e1:(k<n+1)=(k<n):=by simp;omega
   simp only[e1]
   omega
structure Mg (D:DataW Unit) (f:Nat→Option (Int×Bool)):Prop where
 tidy:Tidy D
 has:∀ k:Nat,Maps.has D (.int .i64 k)=(f k).isSome
 at':∀ (k:Nat) p l,f k=some (p,l)→∀ z,D.atKey (.int .i64 k) z=gd p l
 key:∀ kl,Maps.has D kl=true→∃ k:Nat,k<64∧kl=.int .i64 k
 size:Maps.size D=wo f 64
theorem cnt_none:∀ n,wo (fun _=>none) n=0
 | 0=>rfl
 | k+1=>by simp[wo,cnt_none k]
theorem mg_nil:Mg (.map []) (fun _=>none) where
 tidy:=tidy_empty
 has _:=rfl
 at' _ _ _ h:=by cases h
 key kl h:=by rw[has_eq] at h;cases h
 size:=(cnt_none 64).symm
theorem lit_ne {a b:Nat} (h:a≠b):(Lit.int .i64 (a:Int))≠.int .i64 (b:Int):=by simp;omega
theorem mg_put {D:DataW Unit} {f:Nat→Option (Int×Bool)} (h:Mg D f) {k:Nat} (hk:k<64) (p:Int) (l:Bool):Mg (D.put (.int .i64 k) (gd p l)) (pj f k (some (p,l))):=by
 have hkl:WideAt.IsKeyLit (.int .i64 (k:Int)):=trivial
 refine ⟨h.tidy.put hkl _,fun j=>?_,fun j q m hj z=>?_,fun kl hh=>?_,?_⟩
 ·by_cases e:j=k
  ·subst e;rw[km,has_put_same h.tidy.isMap hkl];rfl
  ·rw[ju _ _ e,has_put_other (lit_ne e)];exact h.has j
 ·by_cases e:j=k
  ·subst e;rw[km] at hj;cases hj;exact atKey_put_same h.tidy.isMap hkl _ _
  ·rw[ju _ _ e] at hj;rw[atKey_put_other (lit_ne e)];exact h.at' j q m hj z
 ·by_cases e:kl=.int .i64 (k:Int)
  ·exact ⟨k,hk,e⟩
  ·rw[has_put_other e] at hh;exact h.key kl hh
 ·rw[size_put h.tidy,h.size,h.has]
  have:=cnt_set f k (some (p,l)) 64
  cases hf:(f k).isSome <;> simp[hf,hk] at this ⊢ <;> omega
theorem mg_del {D:DataW Unit} {f:Nat→Option (Int×Bool)} (h:Mg D f) {k:Nat} (hk:k<64):Mg (D.del (.int .i64 k)) (pj f k none):=by
 refine ⟨h.tidy.del _,fun j=>?_,fun j q m hj z=>?_,fun kl hh=>?_,?_⟩
 ·by_cases e:j=k
  ·subst e;rw[km,has_del_same];rfl
  ·rw[ju _ _ e,has_del_other (lit_ne e)];exact h.has j
 ·by_cases e:j=k
  ·subst e;rw[km] at hj;cases hj
  ·rw[ju _ _ e] at hj;rw[atKey_del_other (lit_ne e)];exact h.at' j q m hj z
 ·by_cases e:kl=.int .i64 (k:Int)
  ·exact ⟨k,hk,e⟩
  ·rw[has_del_other e] at hh;exact h.key kl hh
 ·have h1:=size_del (k:=.int .i64 (k:Int)) h.tidy
  rw[h.size,h.has] at h1
  have:=cnt_set f k none 64
  cases hf:(f k).isSome <;> simp[hf,hk] at this h1 ⊢ <;> omega
def GM (w:World) (b:Nat) (f:Nat→Option (Int×Bool)):Prop:=∃ D,w.ownsMap pQ 3 gEl b 64 D∧Mg D f
theorem own_tight {w:World} {b n m:Nat} {D:DataW Unit} (h:w.ownsMap pQ 3 gEl b n D) (hm:Maps.size D≤m):w.ownsMap pQ 3 gEl b m D:=by
 obtain ⟨es,clock,hb,F,_,rfl⟩:=h
 refine ⟨es,clock,hb,F,?_,rfl⟩
 simpa [Maps.size,length_sorted] using hm
theorem gm_made (w:World):GM (w.alloc (.map #[] 0)) w.heap.size (fun _=>none):=⟨_,(World.ownsMap_made w _ _ _).mono (by omega),mg_nil⟩
theorem GM.lt {w:World} {b:Nat} {f:Nat→Option (Int×Bool)} (h:GM w b f):b<w.heap.size:=by obtain ⟨D,h,_⟩:=h;exact h.lt
theorem GM.keep {S:Nat→Prop} {w w':World} {b:Nat} {f:Nat→Option (Int×Bool)} (h:GM w b f) (k:Fr S w w') (hs:¬ S b):GM w' b f:=by
 have hl:=h.lt
 obtain ⟨D,⟨es,clock,hb,F,hn,hD⟩,hM⟩:=h
 exact ⟨D,⟨es,clock,(k.block b hl hs).trans hb,F,hn,hD⟩,hM⟩
theorem law3:Keyed pQ 3:=int_keyed Tryz.underlying3
theorem key3 {k:Nat} (hk:k<64):keyOf pQ 3 (.int .i64 (k:Int))=some (.int .i64 (k:Int)):=keyOf_int_mk Tryz.underlying3 (by
 have h1:IntKind.i64.min=-9223372036854775808:=rfl
 have h2:IntKind.i64.max=9223372036854775807:=rfl
 simp only[Lit.wf,h1,h2,Bool.and_eq_true,decide_eq_true_eq]
 omega)
theorem zeroG (w:World):(zeroValue 110).run pQ w=.ok (.agg #[.int .i64 0,.bool false]) w:=Tryz.zeroValue110 w
theorem GM.look {w:World} {b:Nat} {f:Nat→Option (Int×Bool)} (h:GM w b f) {k:Nat} (hk:k<64) :
  (Instr.lookup 112 (.map (some b)) (.int .i64 (k:Int)) true).run pQ w=.ok (.tuple #[.agg #[.int .i64 (pOf (f k)),.bool (lOf (f k))],.bool (f k).isSome]) w:=by
 obtain ⟨D,h,M⟩:=h
 obtain ⟨v,ps,hrun,hv⟩:=h.look_ok law3 Tryz.underlying112 (zeroG w) (gEl_mk 0 false) (key3 hk)
 rw[hrun,M.has]
 obtain ⟨p,l,rfl,e⟩:=gEl_inv hv
 have e1:D.atKey (.int .i64 (k:Int)) (gd 0 false)=gd p l:=congrArg Prod.fst e
 cases hf:f k with
 | none =>
  rw[atKey_of_not_has (by rw[M.has,hf];rfl)] at e1
  obtain ⟨rfl,rfl⟩:=gd_inj e1
  rfl
 | some q =>
  obtain ⟨q,m⟩:=q
  rw[M.at' k q m hf] at e1
  obtain ⟨rfl,rfl⟩:=gd_inj e1
  rfl
theorem GM.look0 {w:World} {b:Nat} {f:Nat→Option (Int×Bool)} (h:GM w b f) {k:Nat} (hk:k<64) :
  (Instr.lookup 112 (.map (some b)) (.int .i64 (k:Int)) false).run pQ w=.ok (.agg #[.int .i64 (pOf (f k)),.bool (lOf (f k))]) w:=by
 obtain ⟨D,h,M⟩:=h
 obtain ⟨v,ps,hrun,hv⟩:=h.lookup law3 Tryz.underlying112 (zeroG w) (gEl_mk 0 false) (key3 hk)
 rw[hrun]
 obtain ⟨p,l,rfl,e⟩:=gEl_inv hv
 have e1:D.atKey (.int .i64 (k:Int)) (gd 0 false)=gd p l:=congrArg Prod.fst e
 cases hf:f k with
 | none =>
  rw[atKey_of_not_has (by rw[M.has,hf];rfl)] at e1
  obtain ⟨rfl,rfl⟩:=gd_inj e1
  rfl
 | some q =>
  obtain ⟨q,m⟩:=q
  rw[M.at' k q m hf] at e1
  obtain ⟨rfl,rfl⟩:=gd_inj e1
  rfl
theorem GM.store {w:World} {b:Nat} {f:Nat→Option (Int×Bool)} (h:GM w b f) {k:Nat} (hk:k<64) (p:Int) (l:Bool) :
  ∃ w',(Instr.mapUpdate 112 (.map (some b)) (.int .i64 (k:Int)) (.agg #[.int .i64 p,.bool l])).run pQ w=.ok () w'∧GM w' b (pj f k (some (p,l)))∧Fr (at' b) w w':=by
 obtain ⟨D,h,M⟩:=h
 obtain ⟨w',hrun,h',ht⟩:=h.store law3 Tryz.underlying112 (by simp only[maxLen];omega) (key3 hk) (gEl_mk p l)
 have M':=mg_put M hk p l
 exact ⟨w',hrun,⟨_,own_tight h' (by rw[M'.size];exact cnt_le _ _),M'⟩,fr_map ht.grown⟩
theorem GM.drop {w:World} {b:Nat} {f:Nat→Option (Int×Bool)} (h:GM w b f) {k:Nat} (hk:k<64) :
  ∃ w',(∀ ty,(Builtin.delete_ #[112,3] ty #[.map (some b),.int .i64 (k:Int)]).run pQ w=.ok (.tuple #[]) w')∧GM w' b (pj f k none)∧Fr (at' b) w w':=by
 obtain ⟨D,h,M⟩:=h
 obtain ⟨w',hrun,h',ht⟩:=h.drop law3 Tryz.underlying112 (key3 hk) 0
 have M':=mg_del M hk
 refine ⟨w',fun ty=>?_,⟨_,own_tight h' (by rw[M'.size];exact cnt_le _ _),M'⟩,fr_map ht.grown⟩
 rw[←hrun]
 rfl
structure Bk where
 b:Nat
 p:Nat
 a:Nat
def Bk.s (B:Bk):Nat→Prop:=fun k=>k=B.b∨k=B.p∨k=B.a
structure Sv (cs:Array Value) (B:Bk) (S:Vg):Prop where
 size:cs.size=71
 lrs:cs[0]? = some (.int .i64 S.lrs)
 mask:cs[1]? = some (.int .i64 S.mask)
 pe:cs[2]? = some (.map (some B.p))
 ac:cs[3]? = some (.map (some B.a))
 off:∀ j,j<64→cs[4+j]? = some (.bool (S.off j))
 inj:cs[68]? = some (.int .i64 S.inj)
 ack:cs[69]? = some (.int .i64 S.ack)
 en:cs[70]? = some (.int .i64 S.en)
structure IsVg (w:World) (B:Bk) (S:Vg):Prop where
 row:∃ cs,Row w B.b cs 115∧Sv cs B S
 pe:GM w B.p S.pe
 ac:GM w B.a S.ac
 ne:B.b≠B.p∧B.b≠B.a∧B.p≠B.a
 good:v_Good S
section
variable {w:World} {B:Bk} {S:Vg}
theorem IsVg.keep {T:Nat→Prop} {w':World} (h:IsVg w B S) (f:Fr T w w') (hs:∀ k,B.s k→¬ T k):IsVg w' B S:=by
 obtain ⟨⟨cs,hr,hc⟩,h1,h2,h3,h4⟩:=h
 exact ⟨⟨cs,hr.keep f (hs _ (Or.inl rfl)),hc⟩,h1.keep f (hs _ (Or.inr (Or.inl rfl))),h2.keep f (hs _ (Or.inr (Or.inr rfl))),h3,h4⟩
theorem IsVg.keep0 {w':World} (h:IsVg w B S) (f:Fr bg w w'):IsVg w' B S:=h.keep f (fun _ _ h=>h)
theorem IsVg.lt (h:IsVg w B S) (k:Nat) (hk:B.s k):k<w.heap.size:=by
 obtain ⟨⟨cs,hr,_⟩,h1,h2,_⟩:=h
 rcases hk with rfl | rfl | rfl
 ·exact hr.lt
 ·exact h1.lt
 ·exact h2.lt
theorem IsVg.frozen (h:IsVg w B S) (i:Nat):w.frozen? ⟨B.b,i,none⟩=false:=by obtain ⟨⟨cs,hr,_⟩,_⟩:=h;exact hr.frozen i
theorem IsVg.cells (h:IsVg w B S):w.cell? ⟨B.b,0,none⟩=some (.int .i64 S.lrs)∧w.cell? ⟨B.b,1,none⟩=some (.int .i64 S.mask)∧w.cell? ⟨B.b,2,none⟩=some (.map (some B.p))∧w.cell? ⟨B.b,3,none⟩=some (.map (some B.a)):=by
 obtain ⟨⟨cs,hr,hc⟩,_⟩:=h
 exact ⟨(hr.cell _).trans hc.lrs,(hr.cell _).trans hc.mask,(hr.cell _).trans hc.pe,(hr.cell _).trans hc.ac⟩
theorem IsVg.counts (h:IsVg w B S):w.cell? ⟨B.b,68,none⟩=some (.int .i64 S.inj)∧w.cell? ⟨B.b,69,none⟩=some (.int .i64 S.ack)∧w.cell? ⟨B.b,70,none⟩=some (.int .i64 S.en):=by
 obtain ⟨⟨cs,hr,hc⟩,_⟩:=h
 exact ⟨(hr.cell _).trans hc.inj,(hr.cell _).trans hc.ack,(hr.cell _).trans hc.en⟩
theorem IsVg.offs (h:IsVg w B S) (j:Nat) (hj:j<64):w.cell? ⟨B.b,4+j,none⟩=some (.bool (S.off j)):=by
 obtain ⟨⟨cs,hr,hc⟩,_⟩:=h
 exact(hr.cell _).trans (hc.off j hj)
theorem fr_b {w':World} (i:Nat) (v:Value) (h:Fr B.s w w'):Fr B.s w (w'.setCell ⟨B.b,i,none⟩ v):=h.setCell (p:=⟨B.b,i,none⟩) (Or.inr (Or.inl rfl)) v
theorem IsVg.set (h:IsVg w B S) {i:Nat} {v:Value} {S':Vg} (hp:S'.pe=S.pe) (ha:S'.ac=S.ac) (hg:v_Good S') (hc:∀ cs,Sv cs B S→Sv (cs.setIfInBounds i v) B S'):IsVg (w.setCell ⟨B.b,i,none⟩ v) B S':=by
 obtain ⟨⟨cs,hr,hv⟩,h1,h2,h3,_⟩:=h
 have f:Fr (at' B.b) w (w.setCell ⟨B.b,i,none⟩ v):=cy w B.b i v (Fr.refl _ _)
 exact ⟨⟨_,hr.setCell i v,hc cs hv⟩,by rw[hp];exact h1.keep f (fun e=>h3.1 e.symm),by rw[ha];exact h2.keep f (fun e=>h3.2.1 e.symm),h3,hg⟩
theorem IsVg.setMask (h:IsVg w B S) {m:Int} (hm:0≤m∧m≤256):IsVg (w.setCell ⟨B.b,1,none⟩ (.int .i64 m)) B { S with mask:=m }:=
 h.set rfl rfl ⟨h.good.pe,h.good.ac,hm,h.good.lrs⟩ fun cs c=>by
  refine ⟨by simpa using c.size,?_,by simp[c.size],?_,?_,fun j hj=>?_,?_,?_,?_⟩
  all_goals simp (disch:=omega) only[Array.getElem?_setIfInBounds,if_neg]
  ·exact c.lrs
  ·exact c.pe
  ·exact c.ac
  ·exact c.off j hj
  ·exact c.inj
  ·exact c.ack
  ·exact c.en
theorem IsVg.setInj (h:IsVg w B S) (x:Int):IsVg (w.setCell ⟨B.b,68,none⟩ (.int .i64 x)) B { S with inj:=x }:=
 h.set rfl rfl ⟨h.good.pe,h.good.ac,h.good.mask,h.good.lrs⟩ fun cs c=>by
  refine ⟨by simpa using c.size,?_,?_,?_,?_,fun j hj=>?_,by simp[c.size],?_,?_⟩
  all_goals simp (disch:=omega) only[Array.getElem?_setIfInBounds,if_neg]
  ·exact c.lrs
  ·exact c.mask
  ·exact c.pe
  ·exact c.ac
  ·exact c.off j hj
  ·exact c.ack
  ·exact c.en
theorem IsVg.setAck (h:IsVg w B S) (x:Int):IsVg (w.setCell ⟨B.b,69,none⟩ (.int .i64 x)) B { S with ack:=x }:=
 h.set rfl rfl ⟨h.good.pe,h.good.ac,h.good.mask,h.good.lrs⟩ fun cs c=>by
  refine ⟨by simpa using c.size,?_,?_,?_,?_,fun j hj=>?_,?_,by simp[c.size],?_⟩
  all_goals simp (disch:=omega) only[Array.getElem?_setIfInBounds,if_neg]
  ·exact c.lrs
  ·exact c.mask
  ·exact c.pe
  ·exact c.ac
  ·exact c.off j hj
  ·exact c.inj
  ·exact c.en
theorem IsVg.setEn (h:IsVg w B S) (x:Int):IsVg (w.setCell ⟨B.b,70,none⟩ (.int .i64 x)) B { S with en:=x }:=
 h.set rfl rfl ⟨h.good.pe,h.good.ac,h.good.mask,h.good.lrs⟩ fun cs c=>by
  refine ⟨by simpa using c.size,?_,?_,?_,?_,fun j hj=>?_,?_,?_,by simp[c.size]⟩
  all_goals simp (disch:=omega) only[Array.getElem?_setIfInBounds,if_neg]
  ·exact c.lrs
  ·exact c.mask
  ·exact c.pe
  ·exact c.ac
  ·exact c.off j hj
  ·exact c.inj
  ·exact c.ack
theorem IsVg.setPe {w':World} (h:IsVg w B S) {f:Nat→Option (Int×Bool)} (hm:GM w' B.p f) (hf:Fr (at' B.p) w w') (hg:GoodF f):IsVg w' B { S with pe:=f }:=by
 obtain ⟨⟨cs,hr,c⟩,h1,h2,h3,h4⟩:=h
 exact ⟨⟨cs,hr.keep hf h3.1,⟨c.size,c.lrs,c.mask,c.pe,c.ac,c.off,c.inj,c.ack,c.en⟩⟩,hm,h2.keep hf (fun e=>h3.2.2 e.symm),h3,⟨hg,h4.ac,h4.mask,h4.lrs⟩⟩
theorem IsVg.setAc {w':World} (h:IsVg w B S) {f:Nat→Option (Int×Bool)} (hm:GM w' B.a f) (hf:Fr (at' B.a) w w') (hg:GoodF f):IsVg w' B { S with ac:=f }:=by
 obtain ⟨⟨cs,hr,c⟩,h1,h2,h3,h4⟩:=h
 exact ⟨⟨cs,hr.keep hf h3.2.1,⟨c.size,c.lrs,c.mask,c.pe,c.ac,c.off,c.inj,c.ack,c.en⟩⟩,h1.keep hf h3.2.2,hm,h3,⟨h4.pe,hg,h4.mask,h4.lrs⟩⟩
end
def Chg (w:World) (B:Bk) (S:Vg) (w':World):Prop:=Fr B.s w w'∧IsVg w' B S
theorem Chg.same {w w1:World} {B:Bk} {S:Vg} (h:IsVg w B S) (f:Fr bg w w1):Chg w B S w1:=⟨f.mono (fun _ _ h=>h.elim),h.keep0 f⟩
end
theorem j6 (n a b:Int) (w:World):Calls pQ 39 #[U κ n,U κ a,U κ b] w fun e w'=>e=ρ (β (decide (a≤n) && decide (n≤b)))∧w'=w:=by
 by_cases h:a≤n
 ·have t1:decide (a≤n)=true:=by simpa using h
  rw[t1]
  go_enter Tryz.func39,Tryz.ntmps39
  go_wp2
  go_ret
  exact ⟨rfl,rfl⟩
 ·have t1:decide (a≤n)=false:=by simpa using h
  rw[t1]
  go_enter Tryz.func39,Tryz.ntmps39
  go_wp2
  go_ret
  exact ⟨rfl,rfl⟩
theorem mr (n:Int) (w:World):Calls pQ 38 #[U κ n] w fun e w'=>e=ρ (β (isI n))∧w'=w:=by
 go_enter Tryz.func38,Tryz.ntmps38
 go_wp2_with fail
 refine(j6 _ _ _ _).mono ?_
 rintro e w1 ⟨rfl,rfl⟩
 go_wp2_with fail
 go_ret
 exact ⟨rfl,rfl⟩
def zcells:Array Value:=#[U κ 0,U κ 0,.map none,.map none] ++ Array.replicate 64 (β false) ++ #[U κ 0,U κ 0,U κ 0]
theorem zero_vg (w:World):Sem.run pQ (zeroValue 115) w=.ok (.agg zcells) w:=by kernel_rfl
def v_isR (n:Int):Bool:=decide (1≤n) && decide (n≤16)
theorem v_isR_iff {n:Int}:v_isR n=true ↔ 1≤n∧n≤16:=by simp[v_isR]
theorem z_off (j:Nat) (hj:j<64):zcells[4+j]? = some (β false):=by
 unfold zcells
 rw[Array.getElem?_append_left (by simp;omega),Array.getElem?_append_right (by simp)]
 simp[hj]
theorem z_size:zcells.size=71:=rfl
theorem sv_zero (B:Bk) (lrs:Int):Sv ((((zcells.setIfInBounds 0 (U κ lrs)).setIfInBounds 1 (U κ 256)).setIfInBounds 2 (.map (some B.p))).setIfInBounds 3 (.map (some B.a))) B (po lrs):=by
 refine ⟨by simp[z_size],?_,?_,?_,?_,fun j hj=>?_,?_,?_,?_⟩
 ·simp[z_size,po]
 ·simp[z_size,po]
 ·simp[z_size]
 ·simp[z_size]
 ·simp (disch:=omega) only[Array.getElem?_setIfInBounds,if_neg]
  exact z_off j hj
 ·simp (disch:=omega) only[Array.getElem?_setIfInBounds,if_neg];rfl
 ·simp (disch:=omega) only[Array.getElem?_setIfInBounds,if_neg];rfl
 ·simp (disch:=omega) only[Array.getElem?_setIfInBounds,if_neg];rfl
theorem v_new_ok (w:World) (n:Int) (hn:v_isR n=true):Calls pQ 25 #[U κ n] w fun e w'=>∃ B:Bk,e=ρ (τ #[π (some ⟨B.b,0,none⟩),U κ 0])∧(∀ k,B.s k→w.heap.size≤k)∧Fr bg w w'∧IsVg w' B (po n):=by
 have hh:(decide (1≤n) && decide (n≤16))=true:=hn
 have hmm:=@run_makeMap pQ
 have hz:=zero_vg
 have hsv:=sv_zero ⟨w.heap.size+2,w.heap.size,w.heap.size+1⟩ n
 have hsz:=z_size
 obtain ⟨Z,hZ⟩:∃ Z,Z=zcells:=⟨_,rfl⟩
 rw[←hZ] at hz hsv hsz
 have q1:(Z=#[])=False:=by
  simp only[eq_iff_iff,iff_false]
  rintro rfl
  simp at hsz
 have q2:(Z.size<2)=False:=by simp[hsz]
 have q3:(Z.size<3)=False:=by simp[hsz]
 have q4:(Z.size<4)=False:=by simp[hsz]
 have HS:Hid (Sv ((((Z.setIfInBounds 0 (U κ n)).setIfInBounds 1 (U κ 256)).setIfInBounds 2 (.map (some w.heap.size))).setIfInBounds 3 (.map (some (w.heap.size+1)))) ⟨w.heap.size+2,w.heap.size,w.heap.size+1⟩ (po n)):=hsv
 clear hZ hsv hsz
 go_enter Tryz.func25,Tryz.ntmps25
 go_wp2_with fail
 refine(j6 _ _ _ _).mono ?_
 rintro e w1 ⟨rfl,rfl⟩
 rw[hh]
 go_wp2_with fail
 go_ret2
 have f0:=(Fr.refl bg w1).alloc (.map #[] 0)
 have f1:=f0.alloc (.map #[] 0)
 have g0:=gm_made w1
 have g1:=gm_made (w1.alloc (.map #[] 0))
 rw[show(w1.alloc (.map #[] 0)).heap.size=w1.heap.size+1 by simp] at g1
 have g2:=g0.keep ((Fr.refl bg (w1.alloc (.map #[] 0))).alloc (.map #[] 0)) (fun h=>h)
 have fz:=(Fr.refl bg ((w1.alloc (.map #[] 0)).alloc (.map #[] 0))).alloc (ω ((((Z.setIfInBounds 0 (U κ n)).setIfInBounds 1 (U κ 256)).setIfInBounds 2 (.map (some w1.heap.size))).setIfInBounds 3 (.map (some (w1.heap.size+1)))) 115)
 have rz:=ba ((w1.alloc (.map #[] 0)).alloc (.map #[] 0)) ((((Z.setIfInBounds 0 (U κ n)).setIfInBounds 1 (U κ 256)).setIfInBounds 2 (.map (some w1.heap.size))).setIfInBounds 3 (.map (some (w1.heap.size+1)))) 115
 rw[show((w1.alloc (.map #[] 0)).alloc (.map #[] 0)).heap.size=w1.heap.size+2 by simp] at rz
 refine ⟨⟨w1.heap.size+2,w1.heap.size,w1.heap.size+1⟩,rfl,?_,f1.trans fz,⟨_,rz,HS.out⟩,g2.keep fz (fun h=>h),g1.keep fz (fun h=>h),⟨by show w1.heap.size+2≠w1.heap.size;omega,by show w1.heap.size+2≠w1.heap.size+1;omega,by show w1.heap.size≠w1.heap.size+1;omega⟩,wn (v_isR_iff.mp hn)⟩
 rintro k (rfl | rfl | rfl) <;> simp
section
open Go.RowKit Go.Maps Go.WideMaps
section
variable {w:World} {b:Nat} {f:Nat→Option (Int×Bool)}
theorem GM.look_none (h:GM w b f) {k:Nat} (hk:k<64) (hf:f k=none):(Instr.lookup 112 (.map (some b)) (.int .i64 (k:Int)) true).run pQ w=.ok (.tuple #[.agg #[.int .i64 0,.bool false],.bool false]) w:=by
 have:=h.look hk;rw[hf] at this;exact this
theorem GM.look_some (h:GM w b f) {k:Nat} (hk:k<64) {p:Int} {l:Bool} (hf:f k=some (p,l)):(Instr.lookup 112 (.map (some b)) (.int .i64 (k:Int)) true).run pQ w=.ok (.tuple #[.agg #[.int .i64 p,.bool l],.bool true]) w:=by
 have:=h.look hk;rw[hf] at this;exact this
theorem GM.look0_some (h:GM w b f) {k:Nat} (hk:k<64) {p:Int} {l:Bool} (hf:f k=some (p,l)):(Instr.lookup 112 (.map (some b)) (.int .i64 (k:Int)) false).run pQ w=.ok (.agg #[.int .i64 p,.bool l]) w:=by
 have:=h.look0 hk;rw[hf] at this;exact this
end
theorem inject_any (w:World) (B:Bk) (S:Vg) (h:IsVg w B S) (n p:Int) (l:Bool) :
  Calls pQ 10 #[.pointer (some ⟨B.b,0,none⟩),.int .i64 n,.int .i64 p,.bool l] w fun e w'=>e=.returned (.int .i64 (injE S n p))∧Chg w B (injS S n p l) w':=by
 unfold injE injS
 cases hn:isI n with
 | false =>
  go_enter Tryz.func10,Tryz.ntmps10
  go_wp2_with fail
  refine(mr _ _).mono ?_
  rintro e w1 ⟨rfl,rfl⟩
  rw[hn]
  go_wp2_with fail
  go_ret
  exact ⟨rfl,Chg.same h (Fr.refl _ _)⟩
 | true =>
  obtain ⟨k,rfl,hk⟩:=isI_nat hn
  cases hp:v_isP p with
  | false =>
   have hp':(decide (0≤p) && decide (p≤255))=false:=hp
   go_enter Tryz.func10,Tryz.ntmps10
   go_wp2_with fail
   refine(mr _ _).mono ?_
   rintro e w1 ⟨rfl,rfl⟩
   rw[hn]
   go_wp2_with fail
   refine(j6 _ _ _ _).mono ?_
   rintro e w1 ⟨rfl,rfl⟩
   rw[hp']
   go_wp2_with fail
   go_ret
   exact ⟨rfl,Chg.same h (Fr.refl _ _)⟩
  | true =>
   have hp':(decide (0≤p) && decide (p≤255))=true:=hp
   obtain ⟨c0,c1,c2,c3⟩:=h.cells
   show Calls _ _ _ _ fun e w'=>e=.returned (.int .i64 (bif (S.pe k).isSome then 80 else 0))∧Chg w B (bif (S.pe k).isSome then S else { S with pe:=pj S.pe k (some (p,l)),inj:=inc S.inj }) w'
   cases hf:S.pe k with
   | some q =>
    obtain ⟨q,m⟩:=q
    have hL:=h.pe.look_some hk hf
    have f0:=(Fr.refl bg w).alloc (.cells #[.int .i64 q,.bool m] 110)
    go_enter Tryz.func10,Tryz.ntmps10
    go_wp2_with fail
    refine(mr _ _).mono ?_
    rintro e w1 ⟨rfl,rfl⟩
    rw[hn]
    go_wp2_with fail
    refine(j6 _ _ _ _).mono ?_
    rintro e w1 ⟨rfl,rfl⟩
    rw[hp']
    go_wp2_with fail
    go_ret
    exact ⟨rfl,Chg.same h f0⟩
   | none =>
    have hL:=h.pe.look_none hk hf
    have f0:=(Fr.refl bg w).alloc (.cells #[.int .i64 0,.bool false] 110)
    have h1:=h.keep0 f0
    obtain ⟨w2,hrun,hm,f2⟩:=h1.pe.store hk p l
    have h2:=h1.setPe hm f2 (mc h1.good.pe _ _ (fun q l' e=>by cases e;have:=v_isP_iff.mp hp;omega))
    obtain ⟨d0,d1,d2,d3⟩:=h1.cells
    obtain ⟨e0,e1,e2⟩:=h2.counts
    have g0:=h2.frozen 68
    have hI:=h2.setInj (inc S.inj)
    have hF:Fr B.s w (w2.setCell ⟨B.b,68,none⟩ (.int .i64 (inc S.inj))):=fr_b 68 _ ((f0.mono (fun _ _ h=>h.elim)).trans (f2.mono (fun _ _ e=>Or.inr (Or.inl e))))
    unfold inc at hI hF ⊢
    have HI:Hid (Chg w B { S with pe:=pj S.pe k (some (p,l)),inj:=wrap64 (S.inj+1) } (w2.setCell ⟨B.b,68,none⟩ (.int .i64 (wrap64 (S.inj+1))))):=⟨hF,hI⟩
    clear hI hF h2 h1 f2 f0 hm h hf
    go_enter Tryz.func10,Tryz.ntmps10
    go_wp2_with fail
    refine(mr _ _).mono ?_
    rintro e w1 ⟨rfl,rfl⟩
    rw[hn]
    go_wp2_with fail
    refine(j6 _ _ _ _).mono ?_
    rintro e w1 ⟨rfl,rfl⟩
    rw[hp']
    go_wp2_with fail
    go_ret
    exact ⟨rfl,HI.out⟩
theorem mask_any (w:World) (B:Bk) (S:Vg) (h:IsVg w B S) (m:Int) :
  Calls pQ 120 #[.pointer (some ⟨B.b,0,none⟩),.int .i64 m] w fun e w'=>e=.returned (.int .i64 (masE m))∧Chg w B (masS S m) w':=by
 unfold masE masS
 cases hn:isM m with
 | false =>
  have hn':(decide (0≤m) && decide (m≤256))=false:=hn
  go_enter Tryz.func120,Tryz.ntmps120
  go_wp2_with fail
  refine(j6 _ _ _ _).mono ?_
  rintro e w1 ⟨rfl,rfl⟩
  rw[hn']
  go_wp2_with fail
  go_ret
  exact ⟨rfl,Chg.same h (Fr.refl _ _)⟩
 | true =>
  have hn':(decide (0≤m) && decide (m≤256))=true:=hn
  obtain ⟨c0,c1,c2,c3⟩:=h.cells
  have g0:=h.frozen 1
  have hI:=h.setMask (isM_iff.mp hn)
  have hF:Fr B.s w (w.setCell ⟨B.b,1,none⟩ (.int .i64 m)):=fr_b 1 _ (Fr.refl _ _)
  go_enter Tryz.func120,Tryz.ntmps120
  go_wp2_with fail
  refine(j6 _ _ _ _).mono ?_
  rintro e w1 ⟨rfl,rfl⟩
  rw[hn']
  go_wp2_with fail
  go_ret
  exact ⟨rfl,hF,hI⟩
theorem end_any (w:World) (B:Bk) (S:Vg) (h:IsVg w B S) (n:Int) :
  Calls pQ 123 #[.pointer (some ⟨B.b,0,none⟩),.int .i64 n] w fun e w'=>e=.returned (.tuple #[.bool (endF S n),.int .i64 (endE S n)])∧Chg w B (endS S n) w':=by
 unfold endF endE endS
 cases hn:isI n with
 | false =>
  go_enter Tryz.func123,Tryz.ntmps123
  go_wp2_with fail
  refine(mr _ _).mono ?_
  rintro e w1 ⟨rfl,rfl⟩
  rw[hn]
  go_wp2_with fail
  go_ret2
  exact ⟨rfl,Chg.same h (Fr.refl _ _)⟩
 | true =>
  obtain ⟨k,rfl,hk⟩:=isI_nat hn
  obtain ⟨c0,c1,c2,c3⟩:=h.cells
  rw[show((k:Int)).toNat=k by simp]
  cases hf:S.ac k with
  | none =>
   have hL:=h.ac.look_none hk hf
   have f0:=(Fr.refl bg w).alloc (.cells #[.int .i64 0,.bool false] 110)
   go_enter Tryz.func123,Tryz.ntmps123
   go_wp2_with fail
   refine(mr _ _).mono ?_
   rintro e w1 ⟨rfl,rfl⟩
   rw[hn]
   go_wp2_with fail
   go_ret2
   exact ⟨rfl,Chg.same h f0⟩
  | some q =>
   obtain ⟨q,m⟩:=q
   have hL:=h.ac.look_some hk hf
   have f0:=(Fr.refl bg w).alloc (.cells #[.int .i64 q,.bool m] 110)
   have r0:=ba w #[.int .i64 q,.bool m] 110
   have h1:=h.keep0 f0
   obtain ⟨w2,hrun,hm,f2⟩:=h1.ac.drop hk
   have h2:=h1.setAc hm f2 (mc h1.good.ac _ _ (fun q l' e=>by cases e))
   obtain ⟨d0,d1,d2,d3⟩:=h1.cells
   obtain ⟨e0,e1,e2⟩:=h2.counts
   have g0:=h2.frozen 70
   have hI:=h2.setEn (inc S.en)
   have hF:Fr B.s w (w2.setCell ⟨B.b,70,none⟩ (.int .i64 (inc S.en))):=fr_b 70 _ ((f0.mono (fun _ _ h=>h.elim)).trans (f2.mono (fun _ _ e=>Or.inr (Or.inr e))))
   have ne1:B.b≠w.heap.size:=Nat.ne_of_lt (h.lt _ (Or.inl rfl))
   have ne2:w.heap.size≠B.a:=Nat.ne_of_gt (h.lt _ (Or.inr (Or.inr rfl)))
   have r2:=(r0.keep f2 ne2).setCell_other (p:=⟨B.b,70,none⟩) ne1 (.int .i64 (inc S.en))
   have r3:=r2.cell 1
   unfold inc at hI hF r3 ⊢
   have HI:Hid (Chg w B { S with ac:=pj S.ac k none,en:=wrap64 (S.en+1) } (w2.setCell ⟨B.b,70,none⟩ (.int .i64 (wrap64 (S.en+1))))):=⟨hF,hI⟩
   clear hI hF h2 h1 f2 f0 hm h hf r0 r2 ne1 ne2
   go_enter Tryz.func123,Tryz.ntmps123
   go_wp2_with fail
   refine(mr _ _).mono ?_
   rintro e w1 ⟨rfl,rfl⟩
   rw[hn]
   go_wp2_with fail
   go_ret2
   exact ⟨rfl,HI.out⟩
theorem next_is {D:DataW Unit} {f:Nat→Option (Int×Bool)} (M:Mg D f) {kl:Lit} {c:Int×Bool} {y:DataW Unit×List MemPlace} (hv:gEl (.agg #[.int .i64 c.1,.bool c.2])=some y) (hat:∀ zd,D.atKey kl zd=y.1):∃ k:Nat,k<64∧kl=.int .i64 (k:Int)∧f k=some c:=by
 obtain ⟨k,hk,rfl⟩:=M.key kl (has_true_of_atKey hat)
 refine ⟨k,hk,rfl,?_⟩
 have hs:=M.has k
 rw[has_true_of_atKey hat] at hs
 cases hf:f k with
 | none=>rw[hf] at hs;cases hs
 | some q =>
  obtain ⟨p,l⟩:=q
  have e:=M.at' k p l hf (gd 0 false)
  rw[hat,gEl_mk] at *
  cases hv
  obtain ⟨e1,e2⟩:=gd_inj e
  rw[←e1,←e2]
theorem inv_key {key:Value} {kl:Lit} (h:keyOf pQ 3 key=some kl):∃ x:Int,key=.int .i64 x:=by
 obtain ⟨x,rfl,_⟩:=Maps.keyOf_int_inv Tryz.underlying3 h
 exact ⟨x,rfl⟩
def mkG (c:Int×Bool):Value:=.agg #[.int .i64 c.1,.bool c.2]
theorem inv_el {v:Value} {y:DataW Unit×List MemPlace} (h:gEl v=some y):∃ c:Int×Bool,v=mkG c:=by
 obtain ⟨p,l,rfl,_⟩:=gEl_inv h
 exact ⟨(p,l),rfl⟩
theorem wpList_next_g {w:World} {ops:Array Oper} {rest:List Oper} {o:Oper} {a:Act} {Q:Exit→Act→World→Prop} (hg:o.guard=none) (it:Operand) (hop:o.op=Op.next it false) (b r:Nat) (D:DataW Unit) (f:Nat→Option (Int×Bool)) (M:Mg D f) (left:Lit→Bool) (ct:Nat)
  (hit:a.eval it=.pointer (some ⟨r,0,none⟩)) (h:w.ranges pQ 3 gEl b r 64 D left ct)
  (hDone:(∀ kl,left kl=false)→wpList pQ ops Q rest (a.put o.dst (.tuple #[.bool false])) w)
  (hMore:∀ (k:Nat) (p:Int) (l:Bool) (w':World) (ct':Nat),k<64→f k=some (p,l)→w'.ranges pQ 3 gEl b r 64 D (fun z=>left z && !z.sameKey (.int .i64 (k:Int))) ct'→ct' < ct→w.grownBy w' (some r) →
   (Instr.entry (.pointer (some ⟨r,0,none⟩))).run pQ w'=.ok (.tuple #[.int .i64 (k:Int),.agg #[.int .i64 p,.bool l]]) w'→wpList pQ ops Q rest (a.put o.dst (.tuple #[.bool true,.int .i64 (k:Int),.agg #[.int .i64 p,.bool l]])) w') :
  wpList pQ ops Q (o :: rest) a w:=
 wpList_next_ranges w hg it hop 3 law3 gEl (Value.int .i64) mkG (fun _ _ hk=>inv_key hk) (fun _ _ hv=>inv_el hv) b r 64 D left ct hit h (fun _ hl=>hDone hl)
  (fun x c kl y w' ct' hkey hlk hv hat hrg hlt hgr hsz hen=>by
   obtain ⟨k,hk,rfl,hf⟩:=next_is M hv hat
   obtain ⟨x',ex,e,_⟩:=Maps.keyOf_int_inv Tryz.underlying3 hkey
   cases ex
   cases e
   exact hMore k c.1 c.2 w' ct' hk hf hrg hlt hgr hen)
theorem running_any (w:World) (B:Bk) (S:Vg) (h:IsVg w B S) :
  Calls pQ 137 #[.pointer (some ⟨B.b,0,none⟩)] w fun e w'=>e=.returned (.int .i64 (run S))∧Fr bg w w':=by
 obtain ⟨c0,c1,c2,c3⟩:=h.cells
 obtain ⟨D,hown,M⟩:=h.ac
 have HM:Hid (Mg D S.ac∧GoodF S.ac):=⟨M,h.good.ac⟩
 clear h M c0 c1 c2
 go_enter Tryz.func137,Tryz.ntmps137
 go_wp2_with (first | (at_range;refine wpList_range_own _ rfl _ 112 rfl 3 110 law3 Tryz.underlying112 _ B.a 64 D rfl hown ?_;intro w0 hrg0 hg0 hs0))
 go_frame
 have f0:=fr_grown0 hg0
 go_loopw [3] (fun i wr=>∃ (left:Lit→Bool) (ct:Nat) (x:Int),wr.ranges pQ 3 gEl B.a w.heap.size 64 D left ct∧i=.int .i64 x∧Fr bg w wr∧x≤256∧(∀ (k:Nat) p l,S.ac k=some (p,l)→left (.int .i64 (k:Int))=false→x≤p)∧(x=256∨∃ k p l,S.ac k=some (p,l)∧x=p)) (fun _ wr=>wr.rangeLeft B.a w.heap.size)
 case atStart =>
  refine ⟨_,_,256,hrg0,rfl,f0,by omega,?_,Or.inl rfl⟩
  intro k p l hk hl
  have e:=HM.out.1.has k
  rw[hk] at e
  rw[e] at hl
  cases hl
 case round =>
  clear hrg0 hg0 hs0 f0 hown
  obtain ⟨left,ct,x,hrg,rfl,fk,h1,h2,h3⟩:=hrel
  have H1:Hid (x≤256∧(∀ (k:Nat) p l,S.ac k=some (p,l)→left (.int .i64 (k:Int))=false→x≤p)∧(x=256∨∃ k p l,S.ac k=some (p,l)∧x=p)):=⟨h1,h2,h3⟩
  have HG:Hid (wr.ranges pQ 3 gEl B.a w.heap.size 64 D left ct):=hrg
  clear h1 h2 h3
  go_wp2_with (first | (at_next;refine wpList_next_g rfl _ rfl B.a w.heap.size D S.ac HM.out.1 left ct rfl hrg (fun hl=>?_) (fun k p l w1 ct1 hk hf hrg1 hlt hgr hen=>?_)))
  ·have HD:x=run S:=run_eq HM.out.2 H1.out.1 (fun j p l hj=>H1.out.2.1 j p l hj (hl _)) H1.out.2.2
   go_ret
   exact ⟨by rw[HD];rfl,fk⟩
  ·have ra:=hrg1.alloc (.cells #[.int .i64 p,.bool l] 110)
   have fa:Fr bg w (w1.alloc (.cells #[.int .i64 p,.bool l] 110)):=((fk.newer (fr_map hgr) (Nat.le_refl _))).alloc _
   have HL:∀ y:Int,y≤x→y≤p→∀ (k':Nat) p' l',S.ac k'=some (p',l')→(left (.int .i64 (k':Int)) && !(Lit.int .i64 (k':Int)).sameKey (.int .i64 (k:Int)))=false→y≤p':=fun y hy hyp k' p' l' hk' he=>by
    cases hl:left (.int .i64 (k':Int)) with
    | false=>have:=H1.out.2.1 k' p' l' hk' hl;omega
    | true =>
     rw[hl] at he
     have e:=WideAt.sameKey_eq (by simpa using he:(Lit.int .i64 (k':Int)).sameKey (.int .i64 (k:Int))=true)
     have e':k'=k:=by simp at e;omega
     subst e'
     rw[hf] at hk'
     cases hk'
     exact hyp
   refine ⟨⟨_,ct1,_,ra,rfl,fa,?_⟩,by rw[ra.left_eq,HG.out.left_eq];exact hlt⟩
   by_cases hpx:p<x
   ·rw[if_pos hpx]
    exact ⟨by have:=H1.out.1;omega,HL p (by omega) (by omega),Or.inr ⟨k,p,l,hf,rfl⟩⟩
   ·rw[if_neg hpx]
    exact ⟨H1.out.1,HL x (by omega) (by omega),H1.out.2.2⟩
end
section
open Go.RowKit Go.Maps Go.WideMaps
theorem GM.look_any {w:World} {b:Nat} {f:Nat→Option (Int×Bool)} (h:GM w b f) {k:Nat} (hk:k<64):∃ p l o,(Instr.lookup 112 (.map (some b)) (.int .i64 (k:Int)) true).run pQ w=.ok (.tuple #[.agg #[.int .i64 p,.bool l],.bool o]) w∧o=(f k).isSome∧(∀ q,f k=some q→p=q.1∧l=q.2):=by
 refine ⟨_,_,_,h.look hk,rfl,fun q hq=>?_⟩
 rw[hq]
 exact ⟨rfl,rfl⟩
theorem min_is (a b:Int):(if b<a then b else a)=min a b:=by split <;> omega
def nId (o:Option Nat):Int:=((o.getD 0:Nat):Int)
theorem next_any (w:World) (B:Bk) (S:Vg) (h:IsVg w B S) :
  Calls pQ 121 #[.pointer (some ⟨B.b,0,none⟩)] w fun e w'=>e=.returned (.tuple #[.int .i64 (nId (mw S)),.bool (mw S).isSome])∧Fr bg w w':=by
 obtain ⟨c0,c1,c2,c3⟩:=h.cells
 have c1':w.drew.cell? ⟨B.b,1,none⟩=some (.int .i64 S.mask):=c1
 have hd:IsVg w.drew B S:=h.keep0 (Fr.refl bg w).drew
 go_enter Tryz.func121,Tryz.ntmps121
 go_wp2_with fail
 go_region_with (first | (go_at_call 137;refine(running_any _ B S hd).mono ?_;rintro e w1 ⟨rfl,f1⟩;(replace f1:=f1.undrewVg);(have hk1:=h.keep0 f1);(obtain ⟨d0,d1,d2,d3⟩:=hk1.cells)))
 all_goals
  simp only[min_is]
  obtain ⟨bd,hbd⟩:∃ bd,bd=min S.mask (run S):=⟨_,rfl⟩
  rw[←hbd]
  clear h hd c0 c1 c2 c3 c1' d0 d1 d2 d3
  go_wp2_with fail
  go_loopw [2,3,4,17] (fun id ok b i wr=>∃ k:Nat,k≤64∧id=.int .i64 (nId (kx S bd k).1)∧ok=.bool (kx S bd k).1.isSome∧b=.int .i64 (kx S bd k).2∧i=.int .i64 k∧Fr bg w wr∧IsVg wr B S) (fun _ _ _ i _=>64-(intOf i).toNat)
  case atStart=>exact ⟨0,by omega,rfl,rfl,by rw[hbd];rfl,rfl,f1,hk1⟩
  case round =>
   clear f1 hk1
   obtain ⟨k,hk,rfl,rfl,rfl,rfl,fk,hT⟩:=hrel
   by_cases hlt:k<64
   ·obtain ⟨c0,c1,c2,c3⟩:=hT.cells
    obtain ⟨p,l,o,hL,ho,hpl⟩:=hT.pe.look_any hlt
    have fa:=(Fr.refl bg wr).alloc (.cells #[.int .i64 p,.bool l] 110)
    have h1:=hT.keep0 fa
    obtain ⟨d0,d1,d2,d3⟩:=h1.cells
    obtain ⟨p',l',o',hL',ho',_⟩:=h1.ac.look_any hlt
    have fb:=(Fr.refl bg (wr.alloc (.cells #[.int .i64 p,.bool l] 110))).alloc (.cells #[.int .i64 p',.bool l'] 110)
    have h2:=h1.keep0 fb
    have e1:=h2.offs k hlt
    have rp:=((ba wr #[.int .i64 p,.bool l] 110).keep fb (fun h=>h)).cell 0
    have i1:0≤(k:Int)∧(k:Int)<64:=by omega
    have HF:Hid (Fr bg w ((wr.alloc (.cells #[.int .i64 p,.bool l] 110)).alloc (.cells #[.int .i64 p',.bool l'] 110))∧IsVg ((wr.alloc (.cells #[.int .i64 p,.bool l] 110)).alloc (.cells #[.int .i64 p',.bool l'] 110)) B S):=⟨(fk.trans fa).trans fb,h2⟩
    have HS:Hid (kx S bd (k+1)=match cand S k with
     | some p=>if p<(kx S bd k).2 then(some k,p) else kx S bd k
     | none=>kx S bd k):=rfl
    obtain ⟨⟨id,b⟩,hb⟩:∃ q,kx S bd k=q:=⟨_,rfl⟩
    have HB:Hid (kx S bd k=(id,b)):=hb
    obtain ⟨ni,hni⟩:∃ ni,ni=nId (kx S bd k).1:=⟨_,rfl⟩
    obtain ⟨oi,hoi⟩:∃ oi,oi=(kx S bd k).1.isSome:=⟨_,rfl⟩
    rw[←hni,←hoi]
    rw[hb]
    show Code.wp pQ _ _ _ _
    have HC:Hid ((o=true∧o'=false∧S.off k=false→cand S k=some p)∧(¬ (o=true∧o'=false∧S.off k=false)→cand S k=none)):=⟨fun ⟨a1,a2,a3⟩=>by
     cases hq:S.pe k with
     | none=>rw[ho,hq] at a1;cases a1
     | some q =>
      cases hq':S.ac k with
      | some q'=>rw[ho',hq'] at a2;cases a2
      | none=>exact cand_is.mpr ⟨⟨l,by rw[hq,(hpl q hq).1,(hpl q hq).2]⟩,hq',a3⟩,fun hn=>by
     cases hq:cand S k with
     | none=>rfl
     | some q =>
      obtain ⟨⟨m,a1⟩,a2,a3⟩:=cand_is.mp hq
      exact(hn ⟨by rw[ho,a1];rfl,by rw[ho',a2];rfl,a3⟩).elim⟩
    have HK:Hid (nId (kx S bd k).1=ni∧(kx S bd k).1.isSome=oi):=⟨hni.symm,hoi.symm⟩
    obtain ⟨of,hof⟩:∃ of,of=S.off k:=⟨_,rfl⟩
    rw[←hof] at e1
    have HO:Hid (of=S.off k):=hof
    clear hof hni hoi hb hpl ho ho' hT h1 h2 fa fb fk
    by_cases hall:o=true∧o'=false∧of=false∧p<b
    ·obtain ⟨rfl,rfl,rfl,hpb⟩:=hall
     have u1:decide (p<b)=true:=decide_eq_true hpb
     have HQ:Hid (kx S bd (k+1)=(some k,p)):=by
      show _=_
      rw[HS.out,HC.out.1 ⟨rfl,rfl,HO.out.symm⟩,HB.out]
      simp only
      rw[if_pos hpb]
     go_wp2_with fail
     go_quiet (fail)
     go_wp2_with fail
     go_roundw
     case rel=>exact ⟨k+1,by omega,by rw[HQ.out];rfl,by rw[HQ.out];rfl,by rw[HQ.out],by go_num,HF.out.1.trans (bo _ _),HF.out.2.keep0 (bo _ _)⟩
     case measure=>simp[intOf];omega
    ·have HQ:Hid (kx S bd (k+1)=(id,b)):=by
      show _=_
      rw[HS.out]
      by_cases hc:o=true∧o'=false∧of=false
      ·rw[HC.out.1 ⟨hc.1,hc.2.1,by rw[←HO.out];exact hc.2.2⟩,HB.out]
       simp only
       rw[if_neg (fun h=>hall ⟨hc.1,hc.2.1,hc.2.2,h⟩)]
      ·rw[HC.out.2 (fun h=>hc ⟨h.1,h.2.1,by rw[HO.out];exact h.2.2⟩),HB.out]
     have hcases:o=false∨(o=true∧o'=true)∨(o=true∧o'=false∧of=true)∨(o=true∧o'=false∧of=false∧decide (p<b)=false):=by
      cases o <;> cases o' <;> cases of <;> simp at hall ⊢ <;> exact hall
     have HKK:=HK.out
     rw[HB.out] at HKK
     have HK2:Hid (nId id=ni∧id.isSome=oi):=HKK
     clear HKK hall
     rcases hcases with rfl | ⟨rfl,rfl⟩ | ⟨rfl,rfl,rfl⟩ | ⟨rfl,rfl,rfl,u1⟩
     all_goals
      go_wp2_with fail
      go_roundw
      case rel=>exact ⟨k+1,by omega,by rw[HQ.out,HK2.out.1],by rw[HQ.out,HK2.out.2],by rw[HQ.out],by go_num,HF.out.1,HF.out.2⟩
      case measure=>simp[intOf];omega
   ·obtain rfl:k=64:=by omega
    have HN:Hid (mw S=(kx S bd 64).1):=by show _=_;rw[hbd];rfl
    go_wp2_with fail
    go_ret2
    exact ⟨by rw[HN.out];rfl,fk⟩
theorem ack_any (w:World) (B:Bk) (S:Vg) (h:IsVg w B S) :
  Calls pQ 122 #[.pointer (some ⟨B.b,0,none⟩)] w fun e w'=>e=.returned (.int .i64 (wi S))∧Chg w B (ackS S) w':=by
 have hn:=next_any w B S h
 unfold wi ackS
 cases ho:mw S with
 | none =>
  rw[ho] at hn
  replace hn:Calls pQ 121 #[.pointer (some ⟨B.b,0,none⟩)] w fun e w'=>e=.returned (.tuple #[.int .i64 0,.bool false])∧Fr bg w w':=hn
  go_enter Tryz.func122,Tryz.ntmps122
  go_wp2_with fail
  refine hn.mono ?_
  rintro e w1 ⟨rfl,f1⟩
  go_wp2_with fail
  go_ret
  exact ⟨rfl,Chg.same h f1⟩
 | some k =>
  have hk:=next_lt ho
  obtain ⟨p,l,hp,hac,_⟩:=wm ho
  rw[ho] at hn
  replace hn:Calls pQ 121 #[.pointer (some ⟨B.b,0,none⟩)] w fun e w'=>e=.returned (.tuple #[.int .i64 (k:Int),.bool true])∧Fr bg w w':=hn
  clear ho
  simp only[hp]
  unfold inc
  go_enter Tryz.func122,Tryz.ntmps122
  go_wp2_with fail
  refine hn.mono ?_
  rintro e w1 ⟨rfl,f1⟩
  have h1:IsVg w1.drew B S:=(h.keep0 f1).keep0 (Fr.refl bg w1).drew
  obtain ⟨c0,c1,c2,c3⟩:=h1.cells
  have hL:=h1.pe.look0_some hk hp
  obtain ⟨w2,hst,hm,f2⟩:=h1.ac.store hk p l
  have h2:=h1.setAc hm f2 (mc h1.good.ac _ _ (fun q l' e=>by cases e;exact h1.good.pe k p l hp))
  obtain ⟨d0,d1,d2,d3⟩:=h2.cells
  obtain ⟨w3,hdr,hm3,f3⟩:=h2.pe.drop hk
  have h3:=h2.setPe hm3 f3 (mc h2.good.pe _ _ (fun q l' e=>by cases e))
  obtain ⟨e0,e1,e2⟩:=h3.counts
  have g0:=h3.frozen 69
  have HI:Hid (Chg w B { S with pe:=pj S.pe k none,ac:=pj S.ac k (some (p,l)),ack:=wrap64 (S.ack+1) } (w3.setCell ⟨B.b,69,none⟩ (.int .i64 (wrap64 (S.ack+1))))):=
   ⟨fr_b 69 _ ((((f1.drew).mono (fun _ _ h=>h.elim)).trans (f2.mono (fun _ _ e=>Or.inr (Or.inr e)))).trans (f3.mono (fun _ _ e=>Or.inr (Or.inl e)))),h3.setAck _⟩
  clear hn h h1 h2 h3 f1 f2 f3 hm hm3 hp hac
  go_wp2_with fail
  go_region
  all_goals
   go_wp2_with fail
   go_ret
   exact ⟨rfl,HI.out⟩
end
end Go.Proofs.YtibhbjbpodlpiaaGreat
