/-
  Contracts over the translation. No statement is proved here.
-/
import Derived.Laws.RangeString
import Derived.WalkKit
import Derived.WalkSpells
import Derived.WalkLawsBesides
import Derived.BigQuiet
import Derived.Deep.QuietTactic
import Derived.Laws.ResultCell
import Derived.Laws.Rows
import Derived.Laws.StructEq
import Derived.Deep.RegionHeld3
import Derived.Test.YtibhbjbpodlpiaaGreatQJA
set_option maxRecDepth 100000
set_option maxHeartbeats 8000000
namespace Go.Proofs.YtibhbjbpodlpiaaGreat
open Go.RowKit
open Go.Value renaming int → U, bool → β, pointer → π, tuple → τ
open Go.IntKind renaming i64 → κ, u32 → μ
open Go.Obj renaming cells → ω
open Go.Ending renaming returned → ρ
open Go.Proofs.Tryz renaming prog → pQ
def kf (op:Int):Nat:=
 if op=1∨op=15∨op=19 then 1 else if 2≤op∧op≤6 then 2 else if 7≤op∧op≤13 then 3 else if op=14∨op=17∨op=18 then 4
 else if op=16∨op=23 then 5 else if op=20 then 6 else if op=22 then 7 else if op=21∨op=24∨op=25 then 8 else 0
def fs:Nat→ByteArray
 | 1=>⟨#[97,105]⟩ | 2=>⟨#[97,98,99]⟩ | 3=>⟨#[97,98,105]⟩ | 4=>⟨#[105]⟩ | 5=>⟨#[98]⟩ | 6=>⟨#[98,105]⟩ | 7=>⟨#[97]⟩ | 8=>⟨#[45]⟩ | _=>⟨#[]⟩
def hA (k:Nat):Bool:=k == 1 || k == 2 || k == 3 || k == 7
def hB (k:Nat):Bool:=k == 2 || k == 3 || k == 5 || k == 6
def hC (k:Nat):Bool:=k == 2
def hI (k:Nat):Bool:=k == 1 || k == 3 || k == 4 || k == 6
def fld (h:Bool) (n m:Int):Bool:=if h then decide (0≤n) && decide (n≤m) else n == 0
def ge (o a b c i:Int):Bool:=kf o != 0 && fld (hA (kf o)) a 15 && fld (hB (kf o)) b 15 && fld (hC (kf o)) c 15 && fld (hI (kf o)) i 65535
def mg (o a b c i:Int):Int:=((o*16+a)*16+b)*65536+c+i
def kp (o a b c i:Int):Int:=if ge o a b c i then mg o a b c i else 0
def mb (o a b c i:Int):Int:=if ge o a b c i then 0 else 50
def qo (x:Int):Int:=x / 16777216
def qa (x:Int):Int:=if hA (kf (qo x)) then x / 1048576%16 else 0
def qb (x:Int):Int:=if hB (kf (qo x)) then x / 65536%16 else 0
def qc (x:Int):Int:=if hC (kf (qo x)) then x%16 else 0
def qi (x:Int):Int:=if hI (kf (qo x)) then x%65536 else 0
def dp (x:Int):Bool:=kf (qo x) != 0 && mg (qo x) (qa x) (qb x) (qc x) (qi x) == x
def dOp (x:Int):Int:=if dp x then qo x else 0
def dA (x:Int):Int:=if dp x then qa x else 0
def dB (x:Int):Int:=if dp x then qb x else 0
def dC (x:Int):Int:=if dp x then qc x else 0
def dI (x:Int):Int:=if dp x then qi x else 0
def dE (x:Int):Int:=if dp x then 0 else 50
def onl (op:Int):Bool:=op == 8 || op == 10 || op == 11 || op == 12 || op == 13
theorem kf_le (op:Int):kf op≤8:=by unfold kf;repeat' split
                                   all_goals omega
theorem kf_range {op:Int} (h:kf op≠0):1≤op∧op≤25:=by
 unfold kf at h
 repeat' split at h
 all_goals omega
theorem kf_cases {P:Nat→Prop} (op:Int) (h0:P 0) (h1:P 1) (h2:P 2) (h3:P 3) (h4:P 4) (h5:P 5) (h6:P 6) (h7:P 7) (h8:P 8):P (kf op):=by
 unfold kf
 repeat' split
 all_goals assumption
theorem op_cases {op:Int} (h:1≤op∧op≤25):op=1∨op=2∨op=3∨op=4∨op=5∨op=6∨op=7∨op=8∨op=9∨op=10∨op=11∨op=12∨op=13∨op=14∨op=15∨op=16∨op=17∨op=18∨op=19∨op=20∨op=21∨op=22∨op=23∨op=24∨op=25:=by omega
theorem fld_yes {n m:Int}:fld true n m=true ↔ 0≤n∧n≤m:=by simp[fld]
theorem ph {n m:Int}:fld false n m=true ↔ n=0:=by simp[fld]
theorem qw {h:Bool} {n m:Int} (hm:0≤m) (e:fld h n m=true):0≤n∧n≤m:=by
 cases h
 ·rw[ph] at e;omega
 ·exact fld_yes.1 e
theorem mu {o a b c i:Int} (h:ge o a b c i=true):kf o≠0∧fld (hA (kf o)) a 15=true∧fld (hB (kf o)) b 15=true∧fld (hC (kf o)) c 15=true∧fld (hI (kf o)) i 65535=true:=by
 unfold ge at h
 simp only[Bool.and_eq_true,bne_iff_ne,ne_eq] at h
 obtain ⟨⟨⟨⟨h1,h2⟩,h3⟩,h4⟩,h5⟩:=h
 exact ⟨h1,h2,h3,h4,h5⟩
theorem kw {o a b c i:Int} (h:ge o a b c i=true):(1≤o∧o≤25)∧(0≤a∧a≤15)∧(0≤b∧b≤15)∧(0≤c∧c≤15)∧(0≤i∧i≤65535)∧(c=0∨i=0):=by
 obtain ⟨h1,h2,h3,h4,h5⟩:=mu h
 refine ⟨kf_range h1,qw (by omega) h2,qw (by omega) h3,qw (by omega) h4,qw (by omega) h5,?_⟩
 by_cases hk:kf o=2
 ·rw[hk] at h5
  exact Or.inr (ph.1 h5)
 ·rw[show hC (kf o)=false by simp[hC,hk]] at h4
  exact Or.inl (ph.1 h4)
theorem word_op {o a b c i:Int} (h:ge o a b c i=true):qo (mg o a b c i)=o:=by
 have:=kw h
 unfold qo mg
 omega
theorem i_parts_word {o a b c i:Int} (h:ge o a b c i=true):qa (mg o a b c i)=a∧qb (mg o a b c i)=b∧qc (mg o a b c i)=c∧qi (mg o a b c i)=i:=by
 have hb:=kw h
 obtain ⟨h1,h2,h3,h4,h5⟩:=mu h
 unfold qa qb qc qi
 rw[word_op h]
 refine ⟨?_,?_,?_,?_⟩
 ·cases e:hA (kf o)
  ·rw[e] at h2;rw[ph.1 h2];simp
  ·simp only[if_true];unfold mg;omega
 ·cases e:hB (kf o)
  ·rw[e] at h3;rw[ph.1 h3];simp
  ·simp only[if_true];unfold mg;omega
 ·cases e:hC (kf o)
  ·rw[e] at h4;rw[ph.1 h4];simp
  ·simp only[if_true]
   have hi:i=0:=by
    have:kf o=2:=by simpa [hC] using e
    rw[this] at h5;exact ph.1 h5
   unfold mg;omega
 ·cases e:hI (kf o)
  ·rw[e] at h5;rw[ph.1 h5];simp
  ·simp only[if_true]
   have hc:c=0:=by
    have:hC (kf o)=false:=by
     revert e
     exact kf_cases (P:=fun k=>hI k=true→hC k=false) o (by decide) (by decide) (by decide) (by decide) (by decide) (by decide) (by decide) (by decide) (by decide)
    rw[this] at h4;exact ph.1 h4
   unfold mg;omega
theorem xn (x:Int) (hk:kf (qo x)≠0):ge (qo x) (qa x) (qb x) (qc x) (qi x)=true:=by
 unfold ge qa qb qc qi
 simp only[Bool.and_eq_true,bne_iff_ne,ne_eq]
 refine ⟨⟨⟨⟨hk,?_⟩,?_⟩,?_⟩,?_⟩
 ·cases hA (kf (qo x)) <;> simp[fld] <;> omega
 ·cases hB (kf (qo x)) <;> simp[fld] <;> omega
 ·cases hC (kf (qo x)) <;> simp[fld] <;> omega
 ·cases hI (kf (qo x)) <;> simp[fld] <;> omega
theorem right_back {o a b c i x:Int} (hk:kf o≠0) (e0:qo x=o) (e1:qa x=a) (e2:qb x=b) (e3:qc x=c) (e4:qi x=i):ge o a b c i=true:=by
 subst e0 e1 e2 e3 e4
 exact xn x hk
theorem vi {x:Int} (h:dp x=true):ge (qo x) (qa x) (qb x) (qc x) (qi x)=true:=by
 unfold dp at h
 simp only[Bool.and_eq_true,bne_iff_ne,ne_eq] at h
 exact xn x h.1
theorem ok_word {x:Int} (h:dp x=true):mg (qo x) (qa x) (qb x) (qc x) (qi x)=x:=by
 unfold dp at h
 simp only[Bool.and_eq_true,beq_iff_eq] at h
 exact h.2
theorem orN (k x y:Nat) (hx:x%2 ^ k=0) (hy:y<2 ^ k) (h1:x<4294967296) (h2:y<4294967296):bits .or .u32 (x:Int) (y:Int)=((x+y:Nat):Int):=by
 rw[u32_or_nat x y h1 h2,nat_join k x y hx hy]
theorem i_join_word {o a b c i:Int} (h:ge o a b c i=true) :
  bits .or .u32 (bits .or .u32 (bits .or .u32 (bits .or .u32 (o*16777216) (a*1048576)) (b*65536)) c) i=mg o a b c i:=by
 obtain ⟨h1,h2,h3,h4,h5,h6⟩:=kw h
 obtain ⟨o,rfl⟩:=Int.eq_ofNat_of_zero_le (show 0≤o by omega)
 obtain ⟨a,rfl⟩:=Int.eq_ofNat_of_zero_le h2.1
 obtain ⟨b,rfl⟩:=Int.eq_ofNat_of_zero_le h3.1
 obtain ⟨c,rfl⟩:=Int.eq_ofNat_of_zero_le h4.1
 obtain ⟨i,rfl⟩:=Int.eq_ofNat_of_zero_le h5.1
 rw[show((o:Int)*16777216)=((o*16777216:Nat):Int) by omega,show((a:Int)*1048576)=((a*1048576:Nat):Int) by omega,show((b:Int)*65536)=((b*65536:Nat):Int) by omega]
 rw[orN 24 _ _ (by omega) (by omega) (by omega) (by omega),orN 20 _ _ (by omega) (by omega) (by omega) (by omega),orN 16 _ _ (by omega) (by omega) (by omega) (by omega)]
 unfold mg
 rcases h6 with h6 | h6
 ·rw[orN 16 _ _ (by omega) (by omega) (by omega) (by omega)]
  omega
 ·obtain rfl:i=0:=by omega
  rw[orN 0 _ _ (by omega) (by omega) (by omega) (by omega)]
  omega
theorem bits_range (op:BinOp) (x y:Int):0≤bits op .u32 x y∧bits op .u32 x y<4294967296:=by
 unfold bits
 simp only[IntKind.wrap_u32']
 omega
theorem and32_15 (x:Nat) (h:x<4294967296):bits .and .u32 (x:Int) 15=((x%16:Nat):Int):=by
 have:=u32_and_nat x 15 h (by omega)
 rw[Nat.and_two_pow_sub_one_eq_mod x 4] at this
 exact this
theorem and32_65535 (x:Nat) (h:x<4294967296):bits .and .u32 (x:Int) 65535=((x%65536:Nat):Int):=by
 have:=u32_and_nat x 65535 h (by omega)
 rw[Nat.and_two_pow_sub_one_eq_mod x 16] at this
 exact this
def ra (x:Int):Int:=x / 1048576%16
def rb (x:Int):Int:=x / 65536%16
def rc (x:Int):Int:=if hC (kf (qo x)) then x%65536 else 0
def ri (x:Int):Int:=if hC (kf (qo x)) then 0 else x%65536
theorem we (x:Int):mg (qo x) (ra x) (rb x) (rc x) (ri x)=x:=by
 unfold mg ra rb rc ri
 cases hC (kf (qo x)) <;> simp[qo] <;> omega
theorem xj (x:Int) (h:ge (qo x) (ra x) (rb x) (rc x) (ri x)=true):ra x=qa x∧rb x=qb x∧rc x=qc x∧ri x=qi x:=by
 obtain ⟨h1,h2,h3,h4,h5⟩:=mu h
 unfold ra rb rc ri at *
 unfold qa qb qc qi
 refine ⟨?_,?_,?_,?_⟩
 ·cases e:hA (kf (qo x))
  ·rw[e] at h2;rw[ph.1 h2];simp
  ·simp
 ·cases e:hB (kf (qo x))
  ·rw[e] at h3;rw[ph.1 h3];simp
  ·simp
 ·cases e:hC (kf (qo x))
  ·simp
  ·rw[e] at h4;simp only[if_true] at h4 ⊢;have:=fld_yes.1 h4;omega
 ·cases e:hI (kf (qo x))
  ·rw[e] at h5;rw[ph.1 h5];simp
  ·have:hC (kf (qo x))=false:=by
    revert e
    exact kf_cases (P:=fun k=>hI k=true→hC k=false) (qo x) (by decide) (by decide) (by decide) (by decide) (by decide) (by decide) (by decide) (by decide) (by decide)
   simp[this]
theorem raw_ok (x:Int):ge (qo x) (ra x) (rb x) (rc x) (ri x)=dp x:=by
 cases hr:ge (qo x) (ra x) (rb x) (rc x) (ri x)
 ·cases hd:dp x
  ·rfl
  ·exfalso
   have hw:=ok_word hd
   have hk:=vi hd
   have hb:=kw hk
   have key:ra x=qa x∧rb x=qb x∧rc x=qc x∧ri x=qi x:=by
    have e0:=we x
    rw[←hw] at e0
    have e1:ra x=qa x∧rb x=qb x:=by
     unfold mg at hw
     unfold ra rb
     omega
    refine ⟨e1.1,e1.2,?_⟩
    cases e:hC (kf (qo x))
    ·have:qc x=0:=by simp[qc,e]
     have h3:rc x=0:=by simp[rc,e]
     refine ⟨by omega,?_⟩
     unfold mg at hw
     simp only[ri,e]
     simp
     omega
    ·have:ri x=0:=by simp[ri,e]
     have h3:qi x=0:=by
      have:hI (kf (qo x))=false:=by
       revert e
       exact kf_cases (P:=fun k=>hC k=true→hI k=false) (qo x) (by decide) (by decide) (by decide) (by decide) (by decide) (by decide) (by decide) (by decide) (by decide)
      simp[qi,this]
     refine ⟨?_,by omega⟩
     unfold mg at hw
     simp only[rc,e]
     simp
     omega
   rw[key.1,key.2.1,key.2.2.1,key.2.2.2,hk] at hr
   exact absurd hr (by simp)
 ·obtain ⟨e1,e2,e3,e4⟩:=xj x hr
  unfold dp
  rw[←e1,←e2,←e3,←e4,we]
  simp[(mu hr).1]
section
open Go.RowKit
def It (w:World) (g:Nat) (s:ByteArray) (p:Nat):Prop:=w.heap[g]? = some (.stringIter s p)
def sw (w:World) (g:Nat) (s:ByteArray) (p:Nat):World:={ w with heap:=w.heap.setIfInBounds g (.stringIter s p) }
theorem It.lt {w:World} {g p:Nat} {s:ByteArray} (h:It w g s p):g<w.heap.size:=by
 rcases Nat.lt_or_ge g w.heap.size with h' | h'
 ·exact h'
 ·simp[It,Array.getElem?_eq_none h'] at h
theorem it_new (w:World) (s:ByteArray):It (w.iter s 0) w.heap.size s 0:=World.iter_heap w s 0
theorem It.set {w:World} {g p:Nat} {s:ByteArray} (h:It w g s p) (q:Nat):It (sw w g s q) g s q:=by
 have:=h.lt
 simp[It,sw,this]
theorem fr_itset {S:Nat→Prop} {w wr:World} {g:Nat} (h:Fr S w wr) (hg:w.heap.size≤g∨S g) (s:ByteArray) (q:Nat):Fr S w (sw wr g s q):=
 ⟨h.os,h.tape,h.output,by simpa [sw] using h.size,fun k hk hn=>by
  have:g≠k:=by rcases hg with hg | hg;omega;intro e;subst e;exact hn hg
  simp only[sw]
  rw[Array.getElem?_setIfInBounds_ne this]
  exact h.block k hk hn⟩
theorem Row.itset {w:World} {b g p:Nat} {cs:Array Value} {t:TypeId} {s:ByteArray} (h:Row w b cs t) (i:It w g s p) (q:Nat):Row (sw w g s q) b cs t:=by
 have:g≠b:=by
  intro e
  subst e
  have h':w.heap[g]? = some (.cells cs t (0,0)):=h
  rw[show w.heap[g]? = _ from i] at h'
  simp at h'
 unfold Row sw
 simp only
 rw[Array.getElem?_setIfInBounds_ne this]
 exact h
theorem It.setCell {w:World} {b g p:Nat} {cs:Array Value} {t:TypeId} {s:ByteArray} (i:It w g s p) (h:Row w b cs t) (j:Nat) (v:Value):It (w.setCell ⟨b,j,none⟩ v) g s p:=by
 have:g≠b:=by
  intro e
  subst e
  have h':w.heap[g]? = some (.cells cs t (0,0)):=h
  rw[show w.heap[g]? = _ from i] at h'
  simp at h'
 unfold It;rw[Below.heap_setCell _ _ _ _ this];exact i
def itPos (w:World) (g:Nat):Nat:=match w.heap[g]? with | some (.stringIter _ p)=>p | _=>0
theorem It.pos {w:World} {g p:Nat} {s:ByteArray} (h:It w g s p):itPos w g=p:=by
 have h':w.heap[g]? = some (.stringIter s p):=h
 simp[itPos,h']
section
variable {P:Program}
theorem x8 {w:World} {g p:Nat} {s:ByteArray} (i:It w g s p) (h:p<s.size) (ha:(s[p]'h).toNat<128) (ty:TypeId) :
  (Instr.next (π (some ⟨g,0,none⟩)) true ty).run P w=.ok (τ #[β true,U κ p,.int .i32 (s[p]'h).toNat]) (sw w g s (p+1)):=by
 have i':w.heap[g]? = some (.stringIter s p):=i
 simp[Instr.next,getObj,setObj,Sem.run_bind,Sem.run,i',Result.andThen,h,decode_ascii s p h ha,goInt,sw]
theorem ye {w:World} {g p:Nat} {s:ByteArray} (i:It w g s p) (h:¬ p<s.size) (ty:TypeId) :
  (Instr.next (π (some ⟨g,0,none⟩)) true ty).run P w=.ok (τ #[β false]) w:=by
 have i':w.heap[g]? = some (.stringIter s p):=i
 simp[Instr.next,getObj,Sem.run,i',h]
end
end
def formsB:ByteArray:={ data:=([97,105,32,97,98,99,32,97,98,99,32,97,98,99,32,97,98,99,32,97,98,99,32,97,98,105,32,97,98,105,32,97,98,105,32,97,98,105,32].append [97,98,105,32,97,98,105,32,97,98,105,32,105,32,97,105,32,98,32,105,32,105,32,97,105,32,98,105,32,45,32,97,32,98,32,45,32,45,32]).toArray }
def chr (p:Nat):Nat:=(formsB.data.toList.getD p 0).toNat
def atF (p:Nat):Nat:=((formsB.data.toList.take p).count 32)+1
def beF:Nat→Nat
 | 0=>0
 | p+1=>if chr p=32 then p+1 else beF p
theorem forms_size:formsB.size=78:=by decide +kernel
theorem forms_lt:∀ p:Nat,p<78→chr p<128:=by decide +kernel
theorem forms_no:∀ p:Nat,p<78→chr p≠32→atF (p+1)=atF p∧beF (p+1)=beF p:=by decide +kernel
theorem forms_yes:∀ p:Nat,p<78→chr p=32→atF (p+1)=atF p+1∧beF (p+1)=p+1∧beF p≤p∧atF p≤25∧(formsB.extract (beF p) p).data.toList=(fs (kf (atF p))).data.toList:=by decide +kernel
theorem forms_end:atF 78=26:=by decide +kernel
theorem chr_eq (p:Nat) (h:p<formsB.size):(formsB[p]'h).toNat=chr p:=by
 unfold chr
 rw[List.getD_eq_getElem?_getD,List.getElem?_eq_getElem (by simpa using h)]
 rfl
theorem kf_none {op:Int} (h:op<1∨26≤op):kf op=0:=by
 unfold kf
 repeat' split
 all_goals omega
theorem slice_form (p:Nat) (hp:p<78) (h:chr p=32):formsB.extract (beF p) p=fs (kf (atF p)):=by
 obtain ⟨_,_,_,_,e⟩:=forms_yes p hp h
 exact ByteArray.ext (Array.toList_inj.1 e)
theorem kind_any (op:Int) (w:World):Calls pQ 134 #[U κ op] w fun e w'=>e=ρ (.string (fs (kf op)))∧Fr bg w w':=by
 go_enter Tryz.func134,Tryz.ntmps134
 go_wp2_with fail
 go_loopw [3,4] (fun a b wr=>∃ p:Nat,p≤78∧a=U κ (atF p)∧b=U κ (beF p)∧(op<1∨(atF p:Int)≤op)∧Fr bg w wr∧It wr w.heap.size formsB p) (fun _ _ wr=>78-itPos wr w.heap.size)
 case atStart=>exact ⟨0,by omega,rfl,rfl,by rw[show atF 0=1 from rfl];omega,(Fr.refl _ _).alloc _,it_new w formsB⟩
 case round =>
  obtain ⟨p,hp,rfl,rfl,ho,fk,ik⟩:=hrel
  have HP:Hid (p≤78):=hp
  have HO:Hid (op<1∨(atF p:Int)≤op):=ho
  have M:itPos wr w.heap.size=p:=ik.pos
  by_cases h78:p=78
  ·subst h78
   have hn:=fun ty=>ye (P:=pQ) ik (by rw[forms_size];omega) ty
   clear M hp ho ik
   go_wp2
   go_ret
   refine ⟨?_,fk⟩
   rw[kf_none (by have:=HO.out;rw[forms_end] at this;omega)]
   rfl
  ·have hlt:p<78:=by omega
   have hs:p<formsB.size:=by rw[forms_size];exact hlt
   have hn:=fun ty=>x8 (P:=pQ) ik hs (by rw[chr_eq];exact forms_lt p hlt) ty
   rw[chr_eq] at hn
   have i2:=ik.set (p+1)
   have f2:=fr_itset fk (Or.inl (Nat.le_refl _)) formsB (p+1)
   have M2:Hid (itPos (sw wr w.heap.size formsB (p+1)) w.heap.size=p+1):=i2.pos
   have M1:Hid (itPos wr w.heap.size=p):=M
   clear M hp ho ik fk hs h78
   have HL:Hid (p<78):=hlt
   have I2:Hid (It (sw wr w.heap.size formsB (p+1)) w.heap.size formsB (p+1)):=i2
   clear hlt i2
   by_cases hc:chr p=32
   ·obtain ⟨g1,g2,g3,g4,g6⟩:=forms_yes p HL.out hc
    have g5:=slice_form p HL.out hc
    clear g6
    rw[hc] at hn
    by_cases he:(atF p:Int)=op
    ·have t1:((atF p:Int) == op)=true:=by simpa using he
     have HE:Hid ((atF p:Int)=op):=he
     have y1:0≤(beF p:Int)∧(beF p:Int)≤(p:Int):=by omega
     have y2:(p:Int)≤78:=by have:=HL.out;omega
     have G5:Hid (formsB.extract (beF p) p=fs (kf (atF p))):=g5
     clear he g1 g2 g3 g4 hc g5
     go_wp2
     go_ret
     refine ⟨?_,f2⟩
     have e5:=G5.out
     rw[HE.out] at e5
     exact congrArg (fun s=>Ending.returned (.string s)) e5
    ·have t1:((atF p:Int) == op)=false:=by simpa using he
     have HE:Hid (¬ (atF p:Int)=op):=he
     have G:Hid (atF (p+1)=atF p+1∧beF (p+1)=p+1):=⟨g1,g2⟩
     have y1:(atF p:Int)≤25:=by omega
     have y2:(p:Int)<78:=by have:=HL.out;omega
     clear he g1 g2 g3 g4 hc g5
     go_wp2
     go_roundw
     case rel=>exact ⟨p+1,by have:=HL.out;omega,by rw[G.out.1];rfl,by rw[G.out.2];rfl,by have:=HO.out;have:=HE.out;rw[G.out.1];omega,f2,I2.out⟩
     case measure=>rw[M2.out,M1.out];have:=HL.out;omega
   ·obtain ⟨g1,g2⟩:=forms_no p HL.out hc
    have t1:((chr p:Int) != 32)=true:=by simp;omega
    have G:Hid (atF (p+1)=atF p∧beF (p+1)=beF p):=⟨g1,g2⟩
    clear hc g1 g2
    go_wp2
    go_roundw
    case rel=>exact ⟨p+1,by have:=HL.out;omega,by rw[G.out.1],by rw[G.out.2],by have:=HO.out;rw[G.out.1];omega,f2,I2.out⟩
    case measure=>rw[M2.out,M1.out];have:=HL.out;omega
theorem rkind_in (op:Int) (w:World) (h:1≤op∧op≤25):Calls pQ 85 #[U κ op] w fun e w'=>e=ρ (.string (fs (kf op)))∧w=w':=by
 rcases op_cases h with rfl | rfl | rfl | rfl | rfl | rfl | rfl | rfl | rfl | rfl | rfl | rfl | rfl | rfl | rfl | rfl | rfl | rfl | rfl | rfl | rfl | rfl | rfl | rfl | rfl
 all_goals clear h
 all_goals go_enter Tryz.func85,Tryz.ntmps85
 all_goals go_wp2
 all_goals go_ret
 all_goals exact ⟨rfl,rfl⟩
theorem rkind_out (op:Int) (w:World) (h:op<1∨26≤op):Calls pQ 85 #[U κ op] w fun e w'=>e=ρ (.string (fs (kf op)))∧w=w':=by
 rw[kf_none h]
 have t1:(op == 1)=false:=by simp;omega
 have t2:(op == 2)=false:=by simp;omega
 have t3:(op == 3)=false:=by simp;omega
 have t4:(op == 4)=false:=by simp;omega
 have t5:(op == 5)=false:=by simp;omega
 have t6:(op == 6)=false:=by simp;omega
 have t7:(op == 7)=false:=by simp;omega
 have t8:(op == 8)=false:=by simp;omega
 have t9:(op == 9)=false:=by simp;omega
 have t10:(op == 10)=false:=by simp;omega
 have t11:(op == 11)=false:=by simp;omega
 have t12:(op == 12)=false:=by simp;omega
 have t13:(op == 13)=false:=by simp;omega
 have t14:(op == 14)=false:=by simp;omega
 have t15:(op == 15)=false:=by simp;omega
 have t16:(op == 16)=false:=by simp;omega
 have t17:(op == 17)=false:=by simp;omega
 have t18:(op == 18)=false:=by simp;omega
 have t19:(op == 19)=false:=by simp;omega
 have t20:(op == 20)=false:=by simp;omega
 have t21:(op == 21)=false:=by simp;omega
 have t22:(op == 22)=false:=by simp;omega
 have t23:(op == 23)=false:=by simp;omega
 have t24:(op == 24)=false:=by simp;omega
 have t25:(op == 25)=false:=by simp;omega
 clear h
 go_enter Tryz.func85,Tryz.ntmps85
 go_wp2
 go_ret
 exact ⟨rfl,rfl⟩
theorem px (op:Int) (w:World):Calls pQ 85 #[U κ op] w fun e w'=>e=ρ (.string (fs (kf op)))∧w=w':=by
 by_cases h:1≤op∧op≤25
 ·exact rkind_in op w h
 ·exact rkind_out op w (by omega)
def jw (o a b c i:Int):Array Value:=#[U κ o,U κ a,U κ b,U κ c,U κ i]
theorem dg {w:World} {g:Nat} {o a b c i:Int} (h:Row w g (jw o a b c i) 69) :
  w.cell? ⟨g,0,none⟩=some (U κ o)∧w.cell? ⟨g,1,none⟩=some (U κ a)∧w.cell? ⟨g,2,none⟩=some (U κ b)∧w.cell? ⟨g,3,none⟩=some (U κ c)∧w.cell? ⟨g,4,none⟩=some (U κ i):=
 ⟨h.cell 0,h.cell 1,h.cell 2,h.cell 3,h.cell 4⟩
theorem ka {w:World} {g:Nat} {cs:Array Value} {t:TypeId} (h:Row w g cs t) :
  w.frozen? ⟨g,0,none⟩=false∧w.frozen? ⟨g,1,none⟩=false∧w.frozen? ⟨g,2,none⟩=false∧w.frozen? ⟨g,3,none⟩=false∧w.frozen? ⟨g,4,none⟩=false:=
 ⟨h.frozen 0,h.frozen 1,h.frozen 2,h.frozen 3,h.frozen 4⟩
def iput (w:World) (g:Nat) (o a b c i:Int):World:=((((w.setCell ⟨g,0,none⟩ (U κ o)).setCell ⟨g,1,none⟩ (U κ a)).setCell ⟨g,2,none⟩ (U κ b)).setCell ⟨g,3,none⟩ (U κ c)).setCell ⟨g,4,none⟩ (U κ i)
theorem ny {w:World} {g:Nat} {o a b c i o' a' b' c' i':Int} {t:TypeId} (h:Row w g (jw o a b c i) t):Row (iput w g o' a' b' c' i') g (jw o' a' b' c' i') t:=
 ((((h.setCell 0 _).setCell 1 _).setCell 2 _).setCell 3 _).setCell 4 _
theorem sk {S:Nat→Prop} {w w1:World} {g:Nat} (o' a' b' c' i':Int) (h:Fr S w w1) (hb:w.heap.size≤g∨S g):Fr S w (iput w1 g o' a' b' c' i'):=
 ((((h.setCell (p:=⟨g,0,none⟩) hb _).setCell (p:=⟨g,1,none⟩) hb _).setCell (p:=⟨g,2,none⟩) hb _).setCell (p:=⟨g,3,none⟩) hb _).setCell (p:=⟨g,4,none⟩) hb _
theorem size_instr:(Tryz.prog.info? 69).map (·.size)=some 5:=by kernel_rfl
theorem ret_instr {fn:Func} {p:Tmp} {tmps:Array Value} {g:Nat} {cs:Array Value} {w:World} (h:fn.results=#[.cell p 69]) (hp:tmps.getD p undef=π (some ⟨g,0,none⟩)) (hr:Row w g cs 69) (hs:cs.size=5) :
  (results fn tmps).run pQ w=.ok (.agg cs) w:=
 results_cell_row h tmps w g _ cs (0,0) _ hp hr Tryz.underlying69 rfl (by rw[hs];exact size_instr)
theorem kd {fn:Func} {p u:Tmp} {tmps:Array Value} {g:Nat} {cs:Array Value} {w:World} (h:fn.results=#[.cell p 69,.tmp u]) (hp:tmps.getD p undef=π (some ⟨g,0,none⟩)) (hr:Row w g cs 69) (hs:cs.size=5) :
  (results fn tmps).run pQ w=.ok (τ #[.agg cs,tmps.getD u undef]) w:=by
 rw[results_cell_tmp h,hp]
 simp only[asAddr,Sem.run_pure,Result.andThen]
 rw[run_loadVar_row w g _ 69 cs (0,0) _ hr Tryz.underlying69 rfl (by rw[hs];exact size_instr)]
theorem eq_instr (o a b c i o' a' b' c' i':Int) (w:World):(binOp .eql 69 (.agg #[U κ o,U κ a,U κ b,U κ c,U κ i]) (.agg #[U κ o',U κ a',U κ b',U κ c',U κ i'])).run pQ w=.ok (β (o == o' && (a == a' && (b == b' && (c == c' && i == i'))))) w:=by
 simp[go_sem]
 repeat' split
 all_goals simp_all
def fch (k p:Nat):Nat:=((fs k).data.toList.getD p 0).toNat
def vy (k p c:Nat):Bool:=((fs k).data.toList.take p).any (fun x=>x.toNat == c)
def fsz (k:Nat):Nat:=(fs k).data.toList.length
theorem fsz_eq (k:Nat):(fs k).size=fsz k:=rfl
theorem fch_eq (k p:Nat) (h:p<(fs k).size):((fs k)[p]'h).toNat=fch k p:=by
 unfold fch
 rw[List.getD_eq_getElem?_getD,List.getElem?_eq_getElem (by simpa using h)]
 rfl
theorem sign_cases:∀ k:Nat,k<9→∀ p:Nat,p<fsz k→fch k p=97∨fch k p=98∨fch k p=99∨fch k p=105∨fch k p=45:=by
 intro k hk
 have:k=0∨k=1∨k=2∨k=3∨k=4∨k=5∨k=6∨k=7∨k=8:=by omega
 rcases this with rfl | rfl | rfl | rfl | rfl | rfl | rfl | rfl | rfl <;> decide +kernel
theorem gw:∀ k:Nat,k<9→∀ p:Nat,p<fsz k→∀ c,vy k (p+1) c=(vy k p c || fch k p == c):=by
 intro k _ p hp c
 unfold vy fch
 rw[List.take_add_one,List.any_append,List.getD_eq_getElem?_getD]
 have:(fs k).data.toList[p]? = some ((fs k).data.toList[p]'hp):=List.getElem?_eq_getElem hp
 rw[this]
 simp
theorem vh:∀ k:Nat,k<9→vy k (fsz k) 97=hA k∧vy k (fsz k) 98=hB k∧vy k (fsz k) 99=hC k∧vy k (fsz k) 105=hI k:=by
 intro k hk
 have:k=0∨k=1∨k=2∨k=3∨k=4∨k=5∨k=6∨k=7∨k=8:=by omega
 rcases this with rfl | rfl | rfl | rfl | rfl | rfl | rfl | rfl | rfl <;> decide +kernel
theorem fsz_le:∀ k:Nat,k<9→fsz k≤3:=by
 intro k hk
 have:k=0∨k=1∨k=2∨k=3∨k=4∨k=5∨k=6∨k=7∨k=8:=by omega
 rcases this with rfl | rfl | rfl | rfl | rfl | rfl | rfl | rfl | rfl <;> decide +kernel
def tk (k p c:Nat) (n:Int):Int:=if vy k p c then n else 0
theorem ke {k p c:Nat} {n:Int} (h:vy k (p+1) c=vy k p c):tk k (p+1) c n=tk k p c n:=by unfold tk;rw[h]
theorem tk_yes {k p c:Nat} {n:Int} (h:vy k (p+1) c=true):tk k (p+1) c n=n:=by unfold tk;rw[h];rfl
theorem pack_any (o a b c i:Int) (w:World):Calls pQ 100 #[.agg #[U κ o,U κ a,U κ b,U κ c,U κ i]] w fun e w'=>(∃ x:Int,e=ρ (U μ x)∧0≤x∧x<4294967296∧(ge o a b c i=true→x=mg o a b c i))∧Fr bg w w':=by
 have f0:=(Fr.refl bg w).alloc (ω (jw o a b c i) 69)
 unfold jw at f0
 go_enter Tryz.func100,Tryz.ntmps100
 go_wp2
 go_ret
 refine ⟨⟨_,rfl,(bits_range _ _ _).1,(bits_range _ _ _).2,fun h=>?_⟩,f0⟩
 obtain ⟨h1,h2,h3,h4,h5,h6⟩:=kw h
 rw[←i_join_word h,show o%4294967296*16777216%4294967296=o*16777216 by omega,show a%4294967296*1048576%4294967296=a*1048576 by omega,show b%4294967296*65536%4294967296=b*65536 by omega,show c%4294967296=c by omega,show i%4294967296=i by omega]
theorem fr_set1 {S:Nat→Prop} {w w1:World} {g:Nat} (h:Fr S w w1) (hb:w.heap.size≤g∨S g) (j:Nat) (v:Value):Fr S w (w1.setCell ⟨g,j,none⟩ v):=h.setCell (p:=⟨g,j,none⟩) hb v
theorem sl (x:Nat) (w:World) (hx:x<4294967296) :
  Calls pQ 135 #[U μ (x:Int)] w fun e w'=>e=ρ (.agg #[U κ (qo x),U κ (qa x),U κ (qb x),U κ (qc x),U κ (qi x)])∧Fr bg w w':=by
 have b1:bits .and .u32 ((x:Int) / 1048576) 15=(x:Int) / 1048576%16:=by
  have:=and32_15 (x / 1048576) (by omega)
  rw[show((x / 1048576:Nat):Int)=(x:Int) / 1048576 by omega] at this
  rw[this];omega
 have b2:bits .and .u32 ((x:Int) / 65536) 15=(x:Int) / 65536%16:=by
  have:=and32_15 (x / 65536) (by omega)
  rw[show((x / 65536:Nat):Int)=(x:Int) / 65536 by omega] at this
  rw[this];omega
 have b3:bits .and .u32 (x:Int) 15=(x:Int)%16:=by
  have:=and32_15 x hx
  rw[this];omega
 have b4:bits .and .u32 (x:Int) 65535=(x:Int)%65536:=by
  have:=and32_65535 x hx
  rw[this];omega
 have hk:kf (qo x)<9:=by have:=kf_le (qo x);omega
 have Z:Hid (qa x=tk (kf (qo x)) (fsz (kf (qo x))) 97 ((x:Int) / 1048576%16)∧qb x=tk (kf (qo x)) (fsz (kf (qo x))) 98 ((x:Int) / 65536%16)∧qc x=tk (kf (qo x)) (fsz (kf (qo x))) 99 ((x:Int)%16)∧qi x=tk (kf (qo x)) (fsz (kf (qo x))) 105 ((x:Int)%65536)):=by
  obtain ⟨z1,z2,z3,z4⟩:=vh (kf (qo x)) hk
  unfold tk qa qb qc qi
  rw[z1,z2,z3,z4]
  exact ⟨rfl,rfl,rfl,rfl⟩
 have f0:=((Fr.refl bg w).alloc (ω (jw 0 0 0 0 0) 69)).alloc (ω (jw (qo x) 0 0 0 0) 69)
 have r0:=(ba w (jw 0 0 0 0 0) 69).alloc (ω (jw (qo x) 0 0 0 0) 69)
 have q0:=ba (w.alloc (ω (jw 0 0 0 0 0) 69)) (jw (qo x) 0 0 0 0) 69
 rw[show(w.alloc (ω (jw 0 0 0 0 0) 69)).heap.size=w.heap.size+1 by simp] at q0
 have K0:=kind_any (qo x) ((w.alloc (ω (jw 0 0 0 0 0) 69)).alloc (ω (jw (qo x) 0 0 0 0) 69))
 generalize hkk:kf (qo x)=k at *
 clear hkk
 go_enter Tryz.func135,Tryz.ntmps135
 go_wp2_with (go_at_call 134;refine K0.mono ?_;rintro e w1 ⟨rfl,f1⟩;clear K0;replace r0:=r0.keep f1 (fun h=>h);replace q0:=q0.keep f1 (fun h=>h);have s1:=f1.size;replace f0:=f0.trans f1;clear f1)
 have hg:w.heap.size+2≤w1.heap.size:=by simp at s1;omega
 have HG:Hid (w.heap.size+2≤w1.heap.size):=hg
 have HX:Hid (x<4294967296):=hx
 clear s1 hg
 go_loopw [5] (fun _ wr=>∃ p:Nat,p≤fsz k∧Fr bg w wr∧It wr w1.heap.size (fs k) p∧Row wr w.heap.size (jw 0 0 0 0 0) 69∧Row wr (w.heap.size+1) (jw (qo x) (tk k p 97 ((x:Int) / 1048576%16)) (tk k p 98 ((x:Int) / 65536%16)) (tk k p 99 ((x:Int)%16)) (tk k p 105 ((x:Int)%65536))) 69) (fun _ wr=>4-itPos wr w1.heap.size)
 case atStart=>exact ⟨0,Nat.zero_le _,f0.alloc _,it_new w1 _,r0.alloc _,q0.alloc _⟩
 case round =>
  clear f0 r0 q0
  obtain ⟨p,hp,fk,ik,r2,r3⟩:=hrel
  have M1:Hid (itPos wr w1.heap.size=p):=ik.pos
  by_cases hlt:p<fsz k
  ·have hs:p<(fs k).size:=hlt
   have h128:fch k p<128:=by have:=sign_cases k hk p hlt;omega
   have hn:=fun ty=>x8 (P:=pQ) ik hs (by rw[fch_eq];exact h128) ty
   rw[fch_eq] at hn
   have I2:Hid (It (sw wr w1.heap.size (fs k) (p+1)) w1.heap.size (fs k) (p+1)):=ik.set (p+1)
   have f2:=fr_itset fk (Or.inl (by have:=HG.out;omega)) (fs k) (p+1) (g:=w1.heap.size)
   have R2:Hid (Row (sw wr w1.heap.size (fs k) (p+1)) w.heap.size (jw 0 0 0 0 0) 69):=r2.itset ik _
   have R3:Hid (Row (sw wr w1.heap.size (fs k) (p+1)) (w.heap.size+1) (jw (qo x) (tk k p 97 ((x:Int) / 1048576%16)) (tk k p 98 ((x:Int) / 65536%16)) (tk k p 99 ((x:Int)%16)) (tk k p 105 ((x:Int)%65536))) 69):=r3.itset ik _
   obtain ⟨c0,c1,c2,c3,c4⟩:=dg R3.out
   obtain ⟨k0,k1,k2,k3,k4⟩:=ka R3.out
   have HL:Hid (p<fsz k∧fsz k≤3):=⟨hlt,fsz_le k hk⟩
   clear h128 hs fk ik r2 r3 hp
   rcases sign_cases k hk p hlt with hc | hc | hc | hc | hc
   ·have e97:tk k (p+1) 97 ((x:Int) / 1048576%16)=((x:Int) / 1048576%16):=tk_yes (by rw[gw k hk p hlt,hc];simp)
    have e98:tk k (p+1) 98 ((x:Int) / 65536%16)=tk k p 98 ((x:Int) / 65536%16):=ke (by rw[gw k hk p hlt,hc];simp)
    have e99:tk k (p+1) 99 ((x:Int)%16)=tk k p 99 ((x:Int)%16):=ke (by rw[gw k hk p hlt,hc];simp)
    have e105:tk k (p+1) 105 ((x:Int)%65536)=tk k p 105 ((x:Int)%65536):=ke (by rw[gw k hk p hlt,hc];simp)
    have E:Hid (tk k (p+1) 97 ((x:Int) / 1048576%16)=((x:Int) / 1048576%16)∧tk k (p+1) 98 ((x:Int) / 65536%16)=tk k p 98 ((x:Int) / 65536%16)∧tk k (p+1) 99 ((x:Int)%16)=tk k p 99 ((x:Int)%16)∧tk k (p+1) 105 ((x:Int)%65536)=tk k p 105 ((x:Int)%65536)):=⟨e97,e98,e99,e105⟩
    clear e97 e98 e99 e105
    rw[hc] at hn
    clear hc
    go_wp2
    go_roundw
    case rel =>
     refine ⟨p+1,by have:=HL.out;omega,fr_set1 f2 (Or.inl (by omega)) _ _,I2.out.setCell R3.out _ _,R2.out.setCell_other (by simp) _,?_⟩
     obtain ⟨e1,e2,e3,e4⟩:=E.out
     rw[e1,e2,e3,e4]
     exact R3.out.setCell 1 _
    case measure=>rw[(I2.out.setCell R3.out _ _).pos,M1.out];have:=HL.out;omega
   ·have e97:tk k (p+1) 97 ((x:Int) / 1048576%16)=tk k p 97 ((x:Int) / 1048576%16):=ke (by rw[gw k hk p hlt,hc];simp)
    have e98:tk k (p+1) 98 ((x:Int) / 65536%16)=((x:Int) / 65536%16):=tk_yes (by rw[gw k hk p hlt,hc];simp)
    have e99:tk k (p+1) 99 ((x:Int)%16)=tk k p 99 ((x:Int)%16):=ke (by rw[gw k hk p hlt,hc];simp)
    have e105:tk k (p+1) 105 ((x:Int)%65536)=tk k p 105 ((x:Int)%65536):=ke (by rw[gw k hk p hlt,hc];simp)
    have E:Hid (tk k (p+1) 97 ((x:Int) / 1048576%16)=tk k p 97 ((x:Int) / 1048576%16)∧tk k (p+1) 98 ((x:Int) / 65536%16)=((x:Int) / 65536%16)∧tk k (p+1) 99 ((x:Int)%16)=tk k p 99 ((x:Int)%16)∧tk k (p+1) 105 ((x:Int)%65536)=tk k p 105 ((x:Int)%65536)):=⟨e97,e98,e99,e105⟩
    clear e97 e98 e99 e105
    rw[hc] at hn
    clear hc
    go_wp2
    go_roundw
    case rel =>
     refine ⟨p+1,by have:=HL.out;omega,fr_set1 f2 (Or.inl (by omega)) _ _,I2.out.setCell R3.out _ _,R2.out.setCell_other (by simp) _,?_⟩
     obtain ⟨e1,e2,e3,e4⟩:=E.out
     rw[e1,e2,e3,e4]
     exact R3.out.setCell 2 _
    case measure=>rw[(I2.out.setCell R3.out _ _).pos,M1.out];have:=HL.out;omega
   ·have e97:tk k (p+1) 97 ((x:Int) / 1048576%16)=tk k p 97 ((x:Int) / 1048576%16):=ke (by rw[gw k hk p hlt,hc];simp)
    have e98:tk k (p+1) 98 ((x:Int) / 65536%16)=tk k p 98 ((x:Int) / 65536%16):=ke (by rw[gw k hk p hlt,hc];simp)
    have e99:tk k (p+1) 99 ((x:Int)%16)=((x:Int)%16):=tk_yes (by rw[gw k hk p hlt,hc];simp)
    have e105:tk k (p+1) 105 ((x:Int)%65536)=tk k p 105 ((x:Int)%65536):=ke (by rw[gw k hk p hlt,hc];simp)
    have E:Hid (tk k (p+1) 97 ((x:Int) / 1048576%16)=tk k p 97 ((x:Int) / 1048576%16)∧tk k (p+1) 98 ((x:Int) / 65536%16)=tk k p 98 ((x:Int) / 65536%16)∧tk k (p+1) 99 ((x:Int)%16)=((x:Int)%16)∧tk k (p+1) 105 ((x:Int)%65536)=tk k p 105 ((x:Int)%65536)):=⟨e97,e98,e99,e105⟩
    clear e97 e98 e99 e105
    rw[hc] at hn
    clear hc
    go_wp2
    go_roundw
    case rel =>
     refine ⟨p+1,by have:=HL.out;omega,fr_set1 f2 (Or.inl (by omega)) _ _,I2.out.setCell R3.out _ _,R2.out.setCell_other (by simp) _,?_⟩
     obtain ⟨e1,e2,e3,e4⟩:=E.out
     rw[e1,e2,e3,e4]
     exact R3.out.setCell 3 _
    case measure=>rw[(I2.out.setCell R3.out _ _).pos,M1.out];have:=HL.out;omega
   ·have e97:tk k (p+1) 97 ((x:Int) / 1048576%16)=tk k p 97 ((x:Int) / 1048576%16):=ke (by rw[gw k hk p hlt,hc];simp)
    have e98:tk k (p+1) 98 ((x:Int) / 65536%16)=tk k p 98 ((x:Int) / 65536%16):=ke (by rw[gw k hk p hlt,hc];simp)
    have e99:tk k (p+1) 99 ((x:Int)%16)=tk k p 99 ((x:Int)%16):=ke (by rw[gw k hk p hlt,hc];simp)
    have e105:tk k (p+1) 105 ((x:Int)%65536)=((x:Int)%65536):=tk_yes (by rw[gw k hk p hlt,hc];simp)
    have E:Hid (tk k (p+1) 97 ((x:Int) / 1048576%16)=tk k p 97 ((x:Int) / 1048576%16)∧tk k (p+1) 98 ((x:Int) / 65536%16)=tk k p 98 ((x:Int) / 65536%16)∧tk k (p+1) 99 ((x:Int)%16)=tk k p 99 ((x:Int)%16)∧tk k (p+1) 105 ((x:Int)%65536)=((x:Int)%65536)):=⟨e97,e98,e99,e105⟩
    clear e97 e98 e99 e105
    rw[hc] at hn
    clear hc
    go_wp2
    go_roundw
    case rel =>
     refine ⟨p+1,by have:=HL.out;omega,fr_set1 f2 (Or.inl (by omega)) _ _,I2.out.setCell R3.out _ _,R2.out.setCell_other (by simp) _,?_⟩
     obtain ⟨e1,e2,e3,e4⟩:=E.out
     rw[e1,e2,e3,e4]
     exact R3.out.setCell 4 _
    case measure=>rw[(I2.out.setCell R3.out _ _).pos,M1.out];have:=HL.out;omega
   ·have e97:tk k (p+1) 97 ((x:Int) / 1048576%16)=tk k p 97 ((x:Int) / 1048576%16):=ke (by rw[gw k hk p hlt,hc];simp)
    have e98:tk k (p+1) 98 ((x:Int) / 65536%16)=tk k p 98 ((x:Int) / 65536%16):=ke (by rw[gw k hk p hlt,hc];simp)
    have e99:tk k (p+1) 99 ((x:Int)%16)=tk k p 99 ((x:Int)%16):=ke (by rw[gw k hk p hlt,hc];simp)
    have e105:tk k (p+1) 105 ((x:Int)%65536)=tk k p 105 ((x:Int)%65536):=ke (by rw[gw k hk p hlt,hc];simp)
    have E:Hid (tk k (p+1) 97 ((x:Int) / 1048576%16)=tk k p 97 ((x:Int) / 1048576%16)∧tk k (p+1) 98 ((x:Int) / 65536%16)=tk k p 98 ((x:Int) / 65536%16)∧tk k (p+1) 99 ((x:Int)%16)=tk k p 99 ((x:Int)%16)∧tk k (p+1) 105 ((x:Int)%65536)=tk k p 105 ((x:Int)%65536)):=⟨e97,e98,e99,e105⟩
    clear e97 e98 e99 e105
    rw[hc] at hn
    clear hc
    go_wp2
    go_roundw
    case rel =>
     refine ⟨p+1,by have:=HL.out;omega,f2,I2.out,R2.out,?_⟩
     obtain ⟨e1,e2,e3,e4⟩:=E.out
     rw[e1,e2,e3,e4]
     exact R3.out
    case measure=>rw[I2.out.pos,M1.out];have:=HL.out;omega
  ·obtain rfl:p=fsz k:=by omega
   have hn:=fun ty=>ye (P:=pQ) ik (by rw[fsz_eq];omega) ty
   have R2:Hid (Row wr w.heap.size (jw 0 0 0 0 0) 69):=r2
   have R3:Hid (Row wr (w.heap.size+1) (jw (qo x) (tk k (fsz k) 97 ((x:Int) / 1048576%16)) (tk k (fsz k) 98 ((x:Int) / 65536%16)) (tk k (fsz k) 99 ((x:Int)%16)) (tk k (fsz k) 105 ((x:Int)%65536))) 69):=r3
   obtain ⟨c0,c1,c2,c3,c4⟩:=dg r3
   obtain ⟨d0,d1,d2,d3,d4⟩:=dg r2
   obtain ⟨k0,k1,k2,k3,k4⟩:=ka r2
   clear ik r2 r3 hp hlt
   go_wp2
   refine bodyPost_ret (ret_instr rfl rfl (ny R2.out) rfl) rfl ?_
   obtain ⟨z1,z2,z3,z4⟩:=Z.out
   rw[z1,z2,z3,z4]
   exact ⟨rfl,sk _ _ _ _ _ fk (Or.inl (Nat.le_refl _))⟩
theorem Fr.undrewIsa {S:Nat→Prop} {w w':World} (h:Fr S w.drew w'):Fr S w w':=⟨h.os,h.tape,h.output,h.size,h.block⟩
theorem right_eq {o a b c i x:Int} (hk:kf o≠0) (hx:ge o a b c i=true→x=mg o a b c i) :
  (qo x == o && (qa x == a && (qb x == b && (qc x == c && qi x == i))))=ge o a b c i:=by
 cases h:ge o a b c i
 ·cases e:(qo x == o && (qa x == a && (qb x == b && (qc x == c && qi x == i))))
  ·rfl
  ·simp only[Bool.and_eq_true,beq_iff_eq] at e
   have:=right_back hk e.1 e.2.1 e.2.2.1 e.2.2.2.1 e.2.2.2.2
   rw[h] at this
   exact this.symm
 ·rw[hx h,word_op h]
  obtain ⟨h1,h2,h3,h4⟩:=i_parts_word h
  rw[h1,h2,h3,h4]
  simp
theorem fs_ne {k:Nat} (hk:k<9) (h:k≠0):(fs k).toList.isEmpty=false:=by
 have:k=1∨k=2∨k=3∨k=4∨k=5∨k=6∨k=7∨k=8:=by omega
 rcases this with rfl | rfl | rfl | rfl | rfl | rfl | rfl | rfl <;> decide +kernel
theorem right_none (o a b c i:Int) (w:World) (h:kf o=0) :
  Calls pQ 99 #[.agg #[U κ o,U κ a,U κ b,U κ c,U κ i]] w fun e w'=>e=ρ (β false)∧Fr bg w w':=by
 have f0:=(Fr.refl bg w).alloc (ω (jw o a b c i) 69)
 have r0:=ba w (jw o a b c i) 69
 have hf:fs (kf o)=⟨#[]⟩:=by rw[h];rfl
 obtain ⟨c0,c1,c2,c3,c4⟩:=dg r0
 unfold jw at f0 r0 c0 c1 c2 c3 c4
 have HF:Hid (fs (kf o)=⟨#[]⟩):=hf
 clear hf h
 go_enter Tryz.func99,Tryz.ntmps99
 go_wp2_with fail
 go_region_with (first
  | (go_at_call 134;refine(kind_any _ _).mono ?_;rintro e w1 ⟨rfl,f1⟩;rw[HF.out];replace f1:=f1.undrewIsa;replace r0:=r0.keep f1 (fun h=>h);obtain ⟨d0,d1,d2,d3,d4⟩:=dg r0;replace f0:=f0.trans f1;clear f1))
 all_goals go_wp2_with fail
 all_goals go_ret
 all_goals exact ⟨rfl,f0⟩
theorem right_some (o a b c i:Int) (w:World) (h:kf o≠0) :
  Calls pQ 99 #[.agg #[U κ o,U κ a,U κ b,U κ c,U κ i]] w fun e w'=>e=ρ (β (ge o a b c i))∧Fr bg w w':=by
 have f0:=(Fr.refl bg w).alloc (ω (jw o a b c i) 69)
 have r0:=ba w (jw o a b c i) 69
 have hf:(fs (kf o)).toList.isEmpty=false:=fs_ne (by have:=kf_le o;omega) h
 have H:Hid (kf o≠0):=h
 obtain ⟨c0,c1,c2,c3,c4⟩:=dg r0
 unfold jw at f0 r0 c0 c1 c2 c3 c4
 have heq:=eq_instr
 clear h
 go_enter Tryz.func99,Tryz.ntmps99
 go_wp2_with fail
 go_region_held3 (fun w'=>w'.cell? ⟨w.heap.size,0,none⟩=some (U κ o)∧w'.cell? ⟨w.heap.size,1,none⟩=some (U κ a)∧w'.cell? ⟨w.heap.size,2,none⟩=some (U κ b)∧w'.cell? ⟨w.heap.size,3,none⟩=some (U κ c)∧w'.cell? ⟨w.heap.size,4,none⟩=some (U κ i)) (first | with_reducible exact ⟨c0,c1,c2,c3,c4⟩ | with_reducible exact ⟨d0,d1,d2,d3,d4⟩ | go_keep) (first
  | (go_at_call 134;refine(kind_any _ _).mono ?_;rintro e w1 ⟨rfl,f1⟩;replace f1:=f1.undrewIsa;replace r0:=r0.keep f1 (fun h=>h);obtain ⟨d0,d1,d2,d3,d4⟩:=dg r0;replace f0:=f0.trans f1;clear f1)
  | (go_at_call 100;refine(pack_any _ _ _ _ _ _).mono ?_;rintro e w1 ⟨⟨x,rfl,hx0,hx1,hx2⟩,f1⟩;obtain ⟨x,rfl⟩:=Int.eq_ofNat_of_zero_le hx0;have hx3:x<4294967296:=(by omega);have HX:Hid (ge o a b c i=true→(x:Int)=mg o a b c i):=hx2;clear hx0 hx1 hx2;replace r0:=r0.keep f1 (fun h=>h);obtain ⟨d0,d1,d2,d3,d4⟩:=dg r0;replace f0:=f0.trans f1;clear f1)
  | (go_at_call 135;refine(sl _ _ hx3).mono ?_;rintro e w1 ⟨rfl,f1⟩;replace r0:=r0.keep f1 (fun h=>h);obtain ⟨d0,d1,d2,d3,d4⟩:=dg r0;replace f0:=f0.trans f1;clear f1))
 all_goals go_wp2_with fail
 all_goals go_ret
 all_goals exact ⟨jk (right_eq H.out HX.out),f0⟩
theorem xz (o a b c i:Int) (w:World) :
  Calls pQ 99 #[.agg #[U κ o,U κ a,U κ b,U κ c,U κ i]] w fun e w'=>e=ρ (β (ge o a b c i))∧Fr bg w w':=by
 by_cases h:kf o=0
 ·rw[show ge o a b c i=false by simp[ge,h]];exact right_none o a b c i w h
 ·exact right_some o a b c i w h
theorem ret_ue {a b c d:Int} (h:a=b) (h':c=d):Ending.returned (τ #[U μ a,U κ c])=ρ (τ #[U μ b,U κ d]):=by rw[h,h']
theorem yg (o a b c i:Int) (w:World) :
  Calls pQ 48 #[.agg #[U κ o,U κ a,U κ b,U κ c,U κ i]] w fun e w'=>e=ρ (τ #[U μ (kp o a b c i),U κ (mb o a b c i)])∧Fr bg w w':=by
 have f0:=(Fr.refl bg w).alloc (ω (jw o a b c i) 69)
 have r0:=ba w (jw o a b c i) 69
 unfold jw at f0
 unfold kp mb
 cases h:ge o a b c i
 ·go_enter Tryz.func48,Tryz.ntmps48
  go_wp2_with fail
  refine(xz _ _ _ _ _ _).mono ?_
  rintro e w1 ⟨rfl,f1⟩
  rw[h]
  replace f0:=f0.trans f1
  clear f1
  go_wp2
  go_ret2
  exact ⟨rfl,f0⟩
 ·go_enter Tryz.func48,Tryz.ntmps48
  go_wp2_with fail
  refine(xz _ _ _ _ _ _).mono ?_
  rintro e w1 ⟨rfl,f1⟩
  rw[h]
  obtain ⟨c0,c1,c2,c3,c4⟩:=dg (r0.keep f1 (fun h=>h))
  replace f0:=f0.trans f1
  clear f1 r0
  go_wp2_with fail
  refine(pack_any _ _ _ _ _ _).mono ?_
  rintro e w2 ⟨⟨x,rfl,_,_,hx⟩,f1⟩
  replace hx:=hx h
  have HX:Hid (x=mg o a b c i):=hx
  clear hx
  replace f0:=f0.trans f1
  clear f1
  go_wp2
  go_ret2
  exact ⟨ret_ue (HX.out.trans rfl) rfl,f0⟩
theorem i_dec_any (x:Nat) (w:World) (hx:x<4294967296) :
  Calls pQ 107 #[U μ (x:Int)] w fun e w'=>e=ρ (τ #[.agg #[U κ (dOp x),U κ (dA x),U κ (dB x),U κ (dC x),U κ (dI x)],U κ (dE x)])∧Fr bg w w':=by
 have f0:=(Fr.refl bg w).alloc (ω (jw 0 0 0 0 0) 69)
 have r0:=ba w (jw 0 0 0 0 0) 69
 unfold jw at f0
 unfold dOp dA dB dC dI dE
 cases h:dp x
 ·have hE:(mb (qo x) (qa x) (qb x) (qc x) (qi x)=50)∨(mb (qo x) (qa x) (qb x) (qc x) (qi x)=0∧(kp (qo x) (qa x) (qb x) (qc x) (qi x) != (x:Int))=true):=by
   unfold mb kp
   cases hr:ge (qo x) (qa x) (qb x) (qc x) (qi x)
   ·left;rfl
   ·right
    refine ⟨rfl,?_⟩
    simp only[if_true,bne_iff_ne,ne_eq]
    intro e
    unfold dp at h
    rw[e] at h
    simp[(mu hr).1] at h
  rcases hE with hE | ⟨hE,hW⟩
  all_goals go_enter Tryz.func107,Tryz.ntmps107
  all_goals go_wp2_with fail
  all_goals refine(sl _ _ hx).mono ?_
  all_goals rintro e w1 ⟨rfl,f1⟩
  all_goals replace r0:=(r0.keep f1 (fun h=>h)).alloc (ω (jw (qo x) (qa x) (qb x) (qc x) (qi x)) 69)
  all_goals replace f0:=(f0.trans f1).alloc (ω (jw (qo x) (qa x) (qb x) (qc x) (qi x)) 69)
  all_goals unfold jw at f0
  all_goals clear f1
  all_goals go_wp2_with fail
  all_goals refine(yg _ _ _ _ _ _).mono ?_
  all_goals rintro e w2 ⟨rfl,f2⟩
  all_goals rw[hE]
  all_goals replace r0:=r0.keep f2 (fun h=>h)
  all_goals replace f0:=f0.trans f2
  all_goals clear f2
  all_goals obtain ⟨c0,c1,c2,c3,c4⟩:=dg r0
  all_goals obtain ⟨k0,k1,k2,k3,k4⟩:=ka r0
  all_goals go_wp2_with fail
  all_goals refine bodyPost_ret (kd rfl rfl (ny r0) rfl) rfl ?_
  all_goals exact ⟨rfl,sk _ _ _ _ _ f0 (Or.inl (Nat.le_refl _))⟩
 ·have hW:kp (qo x) (qa x) (qb x) (qc x) (qi x)=(x:Int):=by unfold kp;rw[vi h,ok_word h];rfl
  have hE:mb (qo x) (qa x) (qb x) (qc x) (qi x)=0:=by unfold mb;rw[vi h];rfl
  go_enter Tryz.func107,Tryz.ntmps107
  go_wp2_with fail
  refine(sl _ _ hx).mono ?_
  rintro e w1 ⟨rfl,f1⟩
  have q0:=ba w1 (jw (qo x) (qa x) (qb x) (qc x) (qi x)) 69
  replace r0:=(r0.keep f1 (fun h=>h)).alloc (ω (jw (qo x) (qa x) (qb x) (qc x) (qi x)) 69)
  replace f0:=(f0.trans f1).alloc (ω (jw (qo x) (qa x) (qb x) (qc x) (qi x)) 69)
  unfold jw at f0
  clear f1
  go_wp2_with fail
  refine(yg _ _ _ _ _ _).mono ?_
  rintro e w2 ⟨rfl,f2⟩
  rw[hE,hW]
  replace r0:=r0.keep f2 (fun h=>h)
  replace q0:=q0.keep f2 (fun h=>h)
  replace f0:=f0.trans f2
  clear f2
  obtain ⟨c0,c1,c2,c3,c4⟩:=dg r0
  obtain ⟨k0,k1,k2,k3,k4⟩:=ka r0
  obtain ⟨d0,d1,d2,d3,d4⟩:=dg q0
  go_wp2_with fail
  refine bodyPost_ret (kd rfl rfl (ny r0) rfl) rfl ?_
  exact ⟨rfl,sk _ _ _ _ _ f0 (Or.inl (Nat.le_refl _))⟩
end Go.Proofs.YtibhbjbpodlpiaaGreat
