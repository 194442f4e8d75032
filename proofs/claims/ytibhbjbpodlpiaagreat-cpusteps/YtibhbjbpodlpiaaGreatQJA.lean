/-
  Contracts over the translation. No statement is proved here.
-/
import Derived.WalkKit
import Derived.ProofKit
import Derived.Below
import Derived.Deep.Quiet
import Derived.Laws.BitsAllLaws
import Derived.Laws.MakeOwn
import Derived.WalkSpells
import Derived.WalkLawsBesides
import Derived.BigQuiet
import Derived.Deep.QuietTactic
import Derived.Laws.StructEq
import Derived.Laws.ResultCell
import Derived.Laws.Rows
import Derived.Test.YtibhbjbpodlpiaaGreatRows
set_option maxRecDepth 100000
set_option maxHeartbeats 8000000
namespace Go.Proofs.YtibhbjbpodlpiaaGreat
open Go.RowKit
open Go.Value renaming int → U, bool → β, pointer → π, tuple → τ
open Go.IntKind renaming i64 → κ, u32 → μ
open Go.Obj renaming cells → ω
open Go.Ending renaming returned → ρ
open Go.Proofs.Tryz renaming prog → pQ
def Row (w:World) (b:Nat) (cs:Array Value) (t:TypeId):Prop:=w.heap[b]? = some (.cells cs t (0,0))
structure Fr (S:Nat→Prop) (w w':World):Prop where
 os:w'.os=w.os
 tape:w'.tape=w.tape
 output:w'.output=w.output
 size:w.heap.size≤w'.heap.size
 block:∀ k,k<w.heap.size→¬ S k→w'.heap[k]? = w.heap[k]?
theorem Row.lt {w:World} {b:Nat} {cs:Array Value} {t:TypeId} (h:Row w b cs t):b<w.heap.size:=by
 rcases Nat.lt_or_ge b w.heap.size with h' | h'
 ·exact h'
 ·simp[Row,Array.getElem?_eq_none h'] at h
theorem Row.keep {S:Nat→Prop} {w w':World} {b:Nat} {cs:Array Value} {t:TypeId} (h:Row w b cs t) (f:Fr S w w') (hs:¬ S b):Row w' b cs t:=by
 unfold Row;rw[f.block b h.lt hs];exact h
theorem Row.cell {w:World} {b:Nat} {cs:Array Value} {t:TypeId} (h:Row w b cs t) (i:Nat):w.cell? ⟨b,i,none⟩=cs[i]?:=by
 have h':w.heap[b]? = some (.cells cs t (0,0)):=h
 simp[World.cell?,h']
theorem Row.frozen {w:World} {b:Nat} {cs:Array Value} {t:TypeId} (h:Row w b cs t) (i:Nat):w.frozen? ⟨b,i,none⟩=false:=by
 have h':w.heap[b]? = some (.cells cs t (0,0)):=h
 simp[World.frozen?,h']
theorem Fr.refl (S:Nat→Prop) (w:World):Fr S w w:=⟨rfl,rfl,rfl,Nat.le_refl _,fun _ _ _=>rfl⟩
theorem Fr.mono {S T:Nat→Prop} {w w':World} (h:Fr S w w') (hs:∀ k,k<w.heap.size→S k→T k):Fr T w w':=
 ⟨h.os,h.tape,h.output,h.size,fun k hk hn=>h.block k hk (fun s=>hn (hs k hk s))⟩
theorem Fr.trans {S:Nat→Prop} {a b c:World} (h:Fr S a b) (k:Fr S b c):Fr S a c:=
 ⟨k.os.trans h.os,k.tape.trans h.tape,k.output.trans h.output,Nat.le_trans h.size k.size,fun i hi hn=>(k.block i (Nat.lt_of_lt_of_le hi h.size) hn).trans (h.block i hi hn)⟩
def bg:Nat→Prop:=fun _=>False
theorem Fr.below {S:Nat→Prop} {w w':World} (h:Fr S w w') {B:Nat} (hB:B≤w.heap.size) (hs:∀ k,S k→B≤k):Below B w w':=
 ⟨h.os,h.tape,h.output,h.size,fun k hk=>h.block k (by omega) (fun s=>by have:=hs k s;omega)⟩
theorem Fr.drew {S:Nat→Prop} {w w':World} (h:Fr S w w'):Fr S w w'.drew:=⟨h.os,h.tape,h.output,h.size,h.block⟩
theorem Fr.alloc {S:Nat→Prop} {w w':World} (h:Fr S w w') (o:Obj):Fr S w (w'.alloc o):=
 h.trans ⟨rfl,rfl,rfl,by simp,fun k hk _=>Below.heap_alloc _ _ _ hk⟩
theorem Fr.setCell {S:Nat→Prop} {w w':World} (h:Fr S w w') {p:Addr} (hp:w.heap.size≤p.block∨S p.block) (u:Value):Fr S w (w'.setCell p u):=
 ⟨h.os,h.tape,h.output,by simpa [World.setCell] using h.size,fun k hk hn=>by
  rw[Below.heap_setCell _ _ _ _ (by rcases hp with hp | hp;omega;intro e;subst e;exact hn hp)];exact h.block k hk hn⟩
theorem ba (w:World) (cs:Array Value) (t:TypeId):Row (w.alloc (.cells cs t)) w.heap.size cs t:=by
 show(w.heap.push _)[w.heap.size]? = _
 simp
theorem Row.alloc {w:World} {b:Nat} {cs:Array Value} {t:TypeId} (h:Row w b cs t) (o:Obj):Row (w.alloc o) b cs t:=
 h.keep ((Fr.refl bg w).alloc o) (fun h=>h)
theorem Row.drew {w:World} {b:Nat} {cs:Array Value} {t:TypeId} (h:Row w b cs t):Row w.drew b cs t:=h
theorem Row.setCell {w:World} {b:Nat} {cs:Array Value} {t:TypeId} (h:Row w b cs t) (i:Nat) (v:Value):Row (w.setCell ⟨b,i,none⟩ v) b (cs.setIfInBounds i v) t:=by
 have h':w.heap[b]? = some (.cells cs t (0,0)):=h
 have:=h.lt
 simp[Row,World.setCell,h',Array.getElem?_modify]
theorem Row.setCell_other {w:World} {b:Nat} {cs:Array Value} {t:TypeId} (h:Row w b cs t) {p:Addr} (hp:p.block≠b) (v:Value):Row (w.setCell p v) b cs t:=by
 unfold Row;rw[Below.heap_setCell _ _ _ _ (by omega)];exact h
def at' (b:Nat):Nat→Prop:=fun k=>k=b
theorem cy (w:World) (bf a:Nat) (v:Value) {w':World} (h:Fr (at' bf) w w'):Fr (at' bf) w (w'.setCell ⟨bf,a,none⟩ v):=
 h.setCell (p:=⟨bf,a,none⟩) (Or.inr (show bf=bf from rfl)) v
theorem Fr.newer {w w1 w2:World} {b:Nat} (f:Fr bg w w1) (g:Fr (at' b) w1 w2) (hb:w.heap.size≤b):Fr bg w w2:=
 ⟨g.os.trans f.os,g.tape.trans f.tape,g.output.trans f.output,Nat.le_trans f.size g.size,fun i hi hn=>(g.block i (Nat.lt_of_lt_of_le hi f.size) (fun e=>by have e':i=b:=e;omega)).trans (f.block i hi hn)⟩
theorem Fr.new {w w1 w2:World} (f:Fr bg w w1) (g:Fr (at' w.heap.size) w1 w2):Fr bg w w2:=
 ⟨g.os.trans f.os,g.tape.trans f.tape,g.output.trans f.output,Nat.le_trans f.size g.size,fun i hi hn=>(g.block i (Nat.lt_of_lt_of_le hi f.size) (fun e=>by have e':i=w.heap.size:=e;omega)).trans (f.block i hi hn)⟩
theorem Fr.newerS {S:Nat→Prop} {w w1 w2:World} {b:Nat} (f:Fr S w w1) (g:Fr (at' b) w1 w2) (hb:w.heap.size≤b):Fr S w w2:=
 ⟨g.os.trans f.os,g.tape.trans f.tape,g.output.trans f.output,Nat.le_trans f.size g.size,fun i hi hn=>(g.block i (Nat.lt_of_lt_of_le hi f.size) (fun e=>by have e':i=b:=e;omega)).trans (f.block i hi hn)⟩
theorem bo (w:World) (n:Nat):Fr bg w (w.drewN n):=⟨rfl,rfl,rfl,Nat.le_refl _,fun _ _ _=>rfl⟩
theorem jk {a b:Bool} (h:a=b):Ending.returned (β a)=ρ (β b):=by rw[h]
theorem qe {w:World} {a:Addr} {v:Value} (h:w.cell? a=some v):a.block<w.heap.size:=by
 rcases Nat.lt_or_ge a.block w.heap.size with h' | h'
 ·exact h'
 ·simp[World.cell?,Array.getElem?_eq_none h'] at h
theorem lh (b o j:Nat):(⟨b,o,none⟩:Addr).add j=⟨b,o+j,none⟩:=by unfold Addr.add;split <;> simp_all
theorem cd {S:Nat→Prop} {w w':World} {a:Addr} {v:Value} (f:Fr S w w') (h:w.cell? a=some v) (hs:¬ S a.block):w'.cell? a=some v:=by
 rw[World.cell?_of_block (w:=w) (f.block a.block (qe h) hs)];exact h
theorem ret_i64 {a b:Int} (h:a=b):Ending.returned (U κ a)=ρ (U κ b):=by rw[h]
def two (bm br:Nat):Nat→Prop:=fun k=>k=bm∨k=br
def U8 (x:UInt8):Value:=.int .u8 ((x.toNat:Nat):Int)
def cu (bs:List UInt8):Array Value:=(bs.map U8).toArray
def numOf:List UInt8→Nat
 | []=>0
 | x :: r=>x.toNat+256*numOf r
def l4:Nat→Nat→List UInt8
 | 0,_=>[]
 | s+1,v=>UInt8.ofNat v :: l4 s (v / 256)
def nh:List UInt8→Nat→List UInt8→List UInt8
 | bs,_,[]=>bs
 | bs,a,x :: r=>nh (bs.set a x) (a+1) r
theorem no (bs:List UInt8):(cu bs).size=bs.length:=by simp[cu]
theorem mf (bs:List UInt8) (i:Nat) (h:i<bs.length):(cu bs)[i]? = some (U8 bs[i]):=by
 simp[cu,h]
theorem qf (bs:List UInt8) (a:Nat) (x:UInt8):(cu bs).setIfInBounds a (U8 x)=cu (bs.set a x):=by
 simp[cu,List.map_set]
theorem putAt_get? (l:List UInt8):∀ (bs:List UInt8) (a:Nat) (_:a+l.length≤bs.length) (j:Nat),(nh bs a l)[j]? = if a≤j∧j<a+l.length then l[j-a]? else bs[j]?:=by
 induction l with
 | nil=>intro bs a h j;simp[nh];omega
 | cons x r ih =>
  intro bs a h j
  simp only[List.length_cons] at h
  rw[nh,ih (bs.set a x) (a+1) (by simp;omega) j]
  simp only[List.length_cons]
  by_cases h1:j=a
  ·subst h1
   rw[if_neg (by omega),if_pos (by omega)]
   simp[show j<bs.length by omega]
  ·by_cases h2:a+1≤j∧j<a+1+r.length
   ·rw[if_pos h2,if_pos (by omega)]
    obtain ⟨k,hk⟩:∃ k,j-a=k+1:=⟨j-a-1,by omega⟩
    rw[hk,List.getElem?_cons_succ]
    congr 1
    omega
   ·rw[if_neg h2,if_neg (by omega)]
    rw[List.getElem?_set_ne (by omega)]
theorem U8_ofNat (v:Nat):U8 (UInt8.ofNat v)=.int .u8 ((v:Int)%256):=by
 simp[U8,UInt8.toNat_ofNat']
theorem xq (x:Nat) (hx:x<4294967296):bits .or .u32 0 (x:Int)=((x:Nat):Int):=by
 have:=u32_or_nat 0 x (by omega) hx
 simpa using this
theorem xr (k x y:Nat) (hx:x<2 ^ k) (h:y*2 ^ k<4294967296) (hk:2 ^ k≤4294967296):bits .or .u32 (x:Int) ((y:Int)*(2:Int) ^ k)=((x+y*2 ^ k:Nat):Int):=by
 have h1:((y:Int)*(2:Int) ^ k)=((y*2 ^ k:Nat):Int):=by simp
 rw[h1,u32_or_nat x (y*2 ^ k) (by omega) h]
 congr 1
 rw[Nat.or_comm,nat_join k (y*2 ^ k) x (Nat.mul_mod_left _ _) hx,Nat.add_comm]
theorem or32_8 (x y:Nat) (hx:x<256) (hy:y<256):bits .or .u32 (x:Int) ((y:Int)*256)=((x+y*256:Nat):Int):=by
 have:=xr 8 x y (by omega) (by omega) (by omega)
 simpa using this
theorem or32_16 (x y:Nat) (hx:x<65536) (hy:y<256):bits .or .u32 (x:Int) ((y:Int)*65536)=((x+y*65536:Nat):Int):=by
 have:=xr 16 x y (by omega) (by omega) (by omega)
 simpa using this
theorem or32_24 (x y:Nat) (hx:x<16777216) (hy:y<256):bits .or .u32 (x:Int) ((y:Int)*16777216)=((x+y*16777216:Nat):Int):=by
 have:=xr 24 x y (by omega) (by omega) (by omega)
 simpa using this
theorem or32_one (x0:Nat) (h0:x0<256):bits .or .u32 0 (x0:Int)=((x0+256*0:Nat):Int):=by
 rw[xq x0 (by omega)];omega
theorem or32_two (x0 x1:Nat) (h0:x0<256) (h1:x1<256):bits .or .u32 (bits .or .u32 0 (x0:Int)) ((x1:Int)*256)=((x0+256*(x1+256*0):Nat):Int):=by
 rw[xq x0 (by omega),or32_8 x0 x1 h0 h1];omega
theorem or32_four (x0 x1 x2 x3:Nat) (h0:x0<256) (h1:x1<256) (h2:x2<256) (h3:x3<256) :
  bits .or .u32 (bits .or .u32 (bits .or .u32 (bits .or .u32 0 (x0:Int)) ((x1:Int)*256)) ((x2:Int)*65536)) ((x3:Int)*16777216)=((x0+256*(x1+256*(x2+256*(x3+256*0))):Nat):Int):=by
 rw[xq x0 (by omega),or32_8 x0 x1 h0 h1,or32_16 _ x2 (by omega) h2,or32_24 _ x3 (by omega) h3];omega
def cj (v l:Bool) (r f:Int):Bool:=
 if v then decide (0≤f) && decide (f≤1023) && (if l then decide (0≤r) && decide (r≤7) else decide (r=0)) else !l && decide (r=0) && decide (f=0)
def ky (v l:Bool) (r f:Int):Int:=f*64+r*4+(if l then 2 else 0)+(if v then 1 else 0)
def encW (v l:Bool) (r f:Int):Int:=if cj v l r f then ky v l r f else 0
def encE (v l:Bool) (r f:Int):Int:=if cj v l r f then 0 else 20
def pv (x:Int):Bool:=x%2 == 1
def pl (x:Int):Bool:=x / 2%2 == 1
def pr (x:Int):Int:=x / 4%8
def pf (x:Int):Int:=x / 64
def md (x:Int):Bool:=cj (pv x) (pl x) (pr x) (pf x) && decide (x / 32%2=0)
def dv (x:Int):Bool:=md x && pv x
def dl (x:Int):Bool:=md x && pl x
def dr (x:Int):Int:=if md x then pr x else 0
def df (x:Int):Int:=if md x then pf x else 0
def de (x:Int):Int:=if md x then 0 else 20
theorem sg {v l:Bool} {r f:Int} (h:cj v l r f=true):(v=false∧l=false∧r=0∧f=0)∨(v=true∧l=false∧r=0∧0≤f∧f≤1023)∨(v=true∧l=true∧0≤r∧r≤7∧0≤f∧f≤1023):=by
 unfold cj at h
 cases v <;> cases l <;> simp at h ⊢ <;> omega
theorem wl {v l:Bool} {r f:Int} (h:cj v l r f=true):0≤ky v l r f∧ky v l r f≤65535:=by
 unfold ky
 rcases sg h with ⟨rfl,rfl,rfl,rfl⟩ | ⟨rfl,rfl,rfl,h1,h2⟩ | ⟨rfl,rfl,h1,h2,h3,h4⟩ <;> simp <;> omega
theorem ok_right {x:Int} (h:md x=true):cj (pv x) (pl x) (pr x) (pf x)=true:=by
 unfold md at h
 simp only[Bool.and_eq_true] at h
 exact h.1
theorem word_parts {x:Int} (h:md x=true):ky (pv x) (pl x) (pr x) (pf x)=x:=by
 unfold md at h
 simp only[Bool.and_eq_true,decide_eq_true_eq] at h
 have h2:=h.2
 unfold ky pv pl pr pf
 by_cases a:x%2=1 <;> by_cases b:x / 2%2=1 <;> simp[a,b] <;> omega
theorem bad_word {x:Int} (h:md x=false) (hr:cj (pv x) (pl x) (pr x) (pf x)=true):ky (pv x) (pl x) (pr x) (pf x)≠x:=by
 unfold md at h
 rw[hr] at h
 simp at h
 unfold ky pv pl pr pf
 by_cases a:x%2=1 <;> by_cases b:x / 2%2=1 <;> simp[a,b] <;> omega
theorem or16_join (k x y:Nat) (hx:x<2 ^ k) (h:y*2 ^ k<65536) (hk:2 ^ k≤65536):bits .or .u16 (x:Int) ((y:Int)*(2:Int) ^ k)=((x+y*2 ^ k:Nat):Int):=by
 have h1:((y:Int)*(2:Int) ^ k)=((y*2 ^ k:Nat):Int):=by simp
 rw[h1,u16_or_nat x (y*2 ^ k) (by omega) h]
 congr 1
 rw[Nat.or_comm,nat_join k (y*2 ^ k) x (Nat.mul_mod_left _ _) hx,Nat.add_comm]
theorem or16_2 (x y:Nat) (hx:x<4) (hy:y<8):bits .or .u16 (x:Int) ((y:Int)*4)=((x+y*4:Nat):Int):=by
 have:=or16_join 2 x y (by omega) (by omega) (by omega)
 simpa using this
theorem or16_6 (x y:Nat) (hx:x<64) (hy:y<1024):bits .or .u16 (x:Int) ((y:Int)*64)=((x+y*64:Nat):Int):=by
 have:=or16_join 6 x y (by omega) (by omega) (by omega)
 simpa using this
theorem join_word (r f:Int) (k:Nat) (hk:k<4) (h1:0≤r) (h2:r≤7) (h3:0≤f) (h4:f≤1023):bits .or .u16 (bits .or .u16 (k:Int) (r*4)) (f*64)=f*64+r*4+(k:Int):=by
 obtain ⟨r,rfl⟩:=Int.eq_ofNat_of_zero_le h1
 obtain ⟨f,rfl⟩:=Int.eq_ofNat_of_zero_le h3
 rw[or16_2 k r hk (by omega),or16_6 (k+r*4) f (by omega) (by omega)]
 omega
theorem and16_1 (x:Nat) (h:x<65536):bits .and .u16 (x:Int) 1=((x%2:Nat):Int):=by
 have:=u16_and_nat x 1 h (by omega)
 rw[show x &&& 1=x%2 from Nat.and_one_is_mod x] at this
 exact this
theorem and16_7 (x:Nat) (h:x<65536):bits .and .u16 (x:Int) 7=((x%8:Nat):Int):=by
 have:=u16_and_nat x 7 h (by omega)
 rw[Nat.and_two_pow_sub_one_eq_mod x 3] at this
 exact this
theorem right_n1 (r f:Int) (w:World) :
  Calls pQ 102 #[.agg #[β false,β true,U κ r,U κ f]] w fun e w'=>e=ρ (β false)∧Fr bg w w':=by
 go_enter Tryz.func102,Tryz.ntmps102
 go_wp2
 go_ret
 exact ⟨rfl,(Fr.refl _ _).alloc _⟩
theorem right_n2 (r f:Int) (w:World) (hr:r≠0) :
  Calls pQ 102 #[.agg #[β false,β false,U κ r,U κ f]] w fun e w'=>e=ρ (β false)∧Fr bg w w':=by
 have t1:(r == 0)=false:=by simpa using hr
 go_enter Tryz.func102,Tryz.ntmps102
 go_wp2
 go_ret
 exact ⟨rfl,(Fr.refl _ _).alloc _⟩
theorem right_n3 (f:Int) (w:World) (hf:f≠0) :
  Calls pQ 102 #[.agg #[β false,β false,U κ 0,U κ f]] w fun e w'=>e=ρ (β false)∧Fr bg w w':=by
 have t1:(f == 0)=false:=by simpa using hf
 go_enter Tryz.func102,Tryz.ntmps102
 go_wp2
 go_ret
 exact ⟨rfl,(Fr.refl _ _).alloc _⟩
theorem right_n4 (w:World) :
  Calls pQ 102 #[.agg #[β false,β false,U κ 0,U κ 0]] w fun e w'=>e=ρ (β true)∧Fr bg w w':=by
 go_enter Tryz.func102,Tryz.ntmps102
 go_wp2
 go_ret
 exact ⟨rfl,(Fr.refl _ _).alloc _⟩
theorem right_f1 (l:Bool) (r f:Int) (w:World) (hf:f<0) :
  Calls pQ 102 #[.agg #[β true,β l,U κ r,U κ f]] w fun e w'=>e=ρ (β false)∧Fr bg w w':=by
 have t1:decide (f<0)=true:=by simpa using hf
 go_enter Tryz.func102,Tryz.ntmps102
 go_wp2
 go_ret
 exact ⟨rfl,(Fr.refl _ _).alloc _⟩
theorem right_f2 (l:Bool) (r f:Int) (w:World) (hf:1023<f) :
  Calls pQ 102 #[.agg #[β true,β l,U κ r,U κ f]] w fun e w'=>e=ρ (β false)∧Fr bg w w':=by
 have t1:decide (f<0)=false:=by simp;omega
 have t2:decide (1024≤f)=true:=by simp;omega
 have t3:decide (1023<f)=true:=by simpa using hf
 go_enter Tryz.func102,Tryz.ntmps102
 go_wp2
 go_ret
 exact ⟨rfl,(Fr.refl _ _).alloc _⟩
theorem right_t1 (f:Int) (w:World) (h0:0≤f) (h1:f≤1023) :
  Calls pQ 102 #[.agg #[β true,β false,U κ 0,U κ f]] w fun e w'=>e=ρ (β true)∧Fr bg w w':=by
 have t1:decide (f<0)=false:=by simp;omega
 have t2:decide (1024≤f)=false:=by simp;omega
 have t3:decide (1023<f)=false:=by simp;omega
 have t0:(f == f)=true:=by simp
 go_enter Tryz.func102,Tryz.ntmps102
 go_wp2
 go_ret
 exact ⟨rfl,(Fr.refl _ _).alloc _⟩
theorem right_t2 (r f:Int) (w:World) (h0:0≤f) (h1:f≤1023) (hr:r≠0) :
  Calls pQ 102 #[.agg #[β true,β false,U κ r,U κ f]] w fun e w'=>e=ρ (β false)∧Fr bg w w':=by
 have t1:decide (f<0)=false:=by simp;omega
 have t2:decide (1024≤f)=false:=by simp;omega
 have t3:decide (1023<f)=false:=by simp;omega
 have t0:(f == f)=true:=by simp
 have t4:(r == 0)=false:=by simpa using hr
 go_enter Tryz.func102,Tryz.ntmps102
 go_wp2
 go_ret
 exact ⟨rfl,(Fr.refl _ _).alloc _⟩
theorem right_l1 (r f:Int) (w:World) (h0:0≤f) (h1:f≤1023) (h2:0≤r) (h3:r≤7) :
  Calls pQ 102 #[.agg #[β true,β true,U κ r,U κ f]] w fun e w'=>e=ρ (β true)∧Fr bg w w':=by
 have t1:decide (f<0)=false:=by simp;omega
 have t2:decide (1024≤f)=false:=by simp;omega
 have t3:decide (1023<f)=false:=by simp;omega
 have t0:(f == f)=true:=by simp
 have t4:decide (0≤r)=true:=by simpa using h2
 have t5:decide (r≤7)=true:=by simpa using h3
 go_enter Tryz.func102,Tryz.ntmps102
 go_wp2
 go_ret
 exact ⟨rfl,(Fr.refl _ _).alloc _⟩
theorem right_l2 (r f:Int) (w:World) (h0:0≤f) (h1:f≤1023) (h2:r<0) :
  Calls pQ 102 #[.agg #[β true,β true,U κ r,U κ f]] w fun e w'=>e=ρ (β false)∧Fr bg w w':=by
 have t1:decide (f<0)=false:=by simp;omega
 have t2:decide (1024≤f)=false:=by simp;omega
 have t3:decide (1023<f)=false:=by simp;omega
 have t0:(f == f)=true:=by simp
 have t4:decide (0≤r)=false:=by simpa using h2
 go_enter Tryz.func102,Tryz.ntmps102
 go_wp2
 go_ret
 exact ⟨rfl,(Fr.refl _ _).alloc _⟩
theorem right_l3 (r f:Int) (w:World) (h0:0≤f) (h1:f≤1023) (h2:7<r) :
  Calls pQ 102 #[.agg #[β true,β true,U κ r,U κ f]] w fun e w'=>e=ρ (β false)∧Fr bg w w':=by
 have t1:decide (f<0)=false:=by simp;omega
 have t2:decide (1024≤f)=false:=by simp;omega
 have t3:decide (1023<f)=false:=by simp;omega
 have t0:(f == f)=true:=by simp
 have t4:decide (0≤r)=true:=by simp;omega
 have t5:decide (r≤7)=false:=by simpa using h2
 go_enter Tryz.func102,Tryz.ntmps102
 go_wp2
 go_ret
 exact ⟨rfl,(Fr.refl _ _).alloc _⟩
theorem sr (v l:Bool) (r f:Int) (w:World) :
  Calls pQ 102 #[.agg #[β v,β l,U κ r,U κ f]] w fun e w'=>e=ρ (β (cj v l r f))∧Fr bg w w':=by
 cases v
 ·cases l
  ·by_cases hr:r=0
   ·subst hr
    by_cases hf:f=0
    ·subst hf;exact right_n4 w
    ·rw[show cj false false 0 f=false by simp[cj,hf]];exact right_n3 f w hf
   ·rw[show cj false false r f=false by simp[cj,hr]];exact right_n2 r f w hr
  ·rw[show cj false true r f=false by simp[cj]];exact right_n1 r f w
 ·by_cases h0:f<0
  ·rw[show cj true l r f=false by simp[cj];omega];exact right_f1 l r f w h0
  by_cases h1:1023<f
  ·rw[show cj true l r f=false by simp[cj];omega];exact right_f2 l r f w h1
  cases l
  ·by_cases hr:r=0
   ·subst hr
    rw[show cj true false 0 f=true by simp[cj];omega];exact right_t1 f w (by omega) (by omega)
   ·rw[show cj true false r f=false by simp[cj,hr]];exact right_t2 r f w (by omega) (by omega) hr
  ·by_cases h2:r<0
   ·rw[show cj true true r f=false by simp[cj];omega];exact right_l2 r f w (by omega) (by omega) h2
   by_cases h3:7<r
   ·rw[show cj true true r f=false by simp[cj];omega];exact right_l3 r f w (by omega) (by omega) h3
   ·rw[show cj true true r f=true by simp[cj];omega];exact right_l1 r f w (by omega) (by omega) (by omega) (by omega)
theorem bit_true (w:World):Calls pQ 103 #[β true] w fun e w'=>e=ρ (.int .u16 1)∧w'=w:=by
 go_enter Tryz.func103,Tryz.ntmps103
 go_wp2
 go_ret
 exact ⟨rfl,rfl⟩
theorem yr (w:World):Calls pQ 103 #[β false] w fun e w'=>e=ρ (.int .u16 0)∧w'=w:=by
 go_enter Tryz.func103,Tryz.ntmps103
 go_wp2
 go_ret
 exact ⟨rfl,rfl⟩
theorem size_ent:(Tryz.prog.info? 77).map (·.size)=some 4:=by kernel_rfl
theorem ret_cell {fn:Func} {p:Tmp} {tmps:Array Value} {g:Nat} {cs:Array Value} {w:World} (h:fn.results=#[.cell p 77]) (hp:tmps.getD p undef=π (some ⟨g,0,none⟩)) (hr:Row w g cs 77) (hs:cs.size=4) :
  (results fn tmps).run pQ w=.ok (.agg cs) w:=
 results_cell_row h tmps w g _ cs (0,0) _ hp hr Tryz.underlying77 rfl (by rw[hs];exact size_ent)
theorem cw {fn:Func} {p u:Tmp} {tmps:Array Value} {g:Nat} {cs:Array Value} {w:World} (h:fn.results=#[.cell p 77,.tmp u]) (hp:tmps.getD p undef=π (some ⟨g,0,none⟩)) (hr:Row w g cs 77) (hs:cs.size=4) :
  (results fn tmps).run pQ w=.ok (τ #[.agg cs,tmps.getD u undef]) w:=by
 rw[results_cell_tmp h,hp]
 simp only[asAddr,Sem.run_pure,Result.andThen]
 rw[run_loadVar_row w g _ 77 cs (0,0) _ hr Tryz.underlying77 rfl (by rw[hs];exact size_ent)]
theorem qp {a b c d:Int} (h:a=b) (h':c=d):Ending.returned (τ #[.int .u16 a,U κ c])=ρ (τ #[.int .u16 b,U κ d]):=by rw[h,h']
def jh (v l:Bool) (r f:Int):Array Value:=#[β v,β l,U κ r,U κ f]
theorem du {w:World} {b:Nat} {v l:Bool} {r f:Int} (h:Row w b (jh v l r f) 77) :
  w.cell? ⟨b,0,none⟩=some (β v)∧w.cell? ⟨b,1,none⟩=some (β l)∧w.cell? ⟨b,2,none⟩=some (U κ r)∧w.cell? ⟨b,3,none⟩=some (U κ f):=
 ⟨h.cell 0,h.cell 1,h.cell 2,h.cell 3⟩
theorem enc_bad (v l:Bool) (r f:Int) (w:World) (h:cj v l r f=false) :
  Calls pQ 51 #[.agg #[β v,β l,U κ r,U κ f]] w fun e w'=>e=ρ (τ #[.int .u16 0,U κ 20])∧Fr bg w w':=by
 have f0:=(Fr.refl bg w).alloc (ω (jh v l r f) 77)
 unfold jh at f0
 go_enter Tryz.func51,Tryz.ntmps51
 go_wp2_with fail
 refine(sr _ _ _ _ _).mono ?_
 rintro e w1 ⟨rfl,f1⟩
 rw[h]
 replace f1:=f0.trans f1
 go_wp2
 go_ret2
 exact ⟨rfl,f1⟩
theorem enc_leaf (r f:Int) (w:World) (h1:0≤r) (h2:r≤7) (h3:0≤f) (h4:f≤1023) :
  Calls pQ 51 #[.agg #[β true,β true,U κ r,U κ f]] w fun e w'=>e=ρ (τ #[.int .u16 (f*64+r*4+3),U κ 0])∧Fr bg w w':=by
 have f0:=(Fr.refl bg w).alloc (ω (jh true true r f) 77)
 have r0:=ba w (jh true true r f) 77
 have hr:cj true true r f=true:=by simp[cj];omega
 unfold jh at f0
 go_enter Tryz.func51,Tryz.ntmps51
 go_wp2_with fail
 refine(sr _ _ _ _ _).mono ?_
 rintro e w1 ⟨rfl,f1⟩
 rw[hr]
 obtain ⟨c0,c1,c2,c3⟩:=du (r0.keep f1 (fun h=>h))
 replace f1:=f0.trans f1
 clear f0 r0 hr
 go_wp2_with fail
 go_quiet (first | (go_at_call 103;refine Calls.quiet_of_same (bit_true _)) | (go_at_call 103;refine Calls.quiet_of_same (yr _)))
 go_wp2
 go_ret2
 refine ⟨qp ?_ rfl,f1.trans (bo _ _)⟩
 rw[show bits BinOp.or IntKind.u16 1 2=((3:Nat):Int) by decide]
 exact join_word r f 3 (by omega) h1 h2 h3 h4
theorem enc_node (f:Int) (w:World) (h3:0≤f) (h4:f≤1023) :
  Calls pQ 51 #[.agg #[β true,β false,U κ 0,U κ f]] w fun e w'=>e=ρ (τ #[.int .u16 (f*64+1),U κ 0])∧Fr bg w w':=by
 have f0:=(Fr.refl bg w).alloc (ω (jh true false 0 f) 77)
 have r0:=ba w (jh true false 0 f) 77
 have hr:cj true false 0 f=true:=by simp[cj];omega
 unfold jh at f0
 go_enter Tryz.func51,Tryz.ntmps51
 go_wp2_with fail
 refine(sr _ _ _ _ _).mono ?_
 rintro e w1 ⟨rfl,f1⟩
 rw[hr]
 obtain ⟨c0,c1,c2,c3⟩:=du (r0.keep f1 (fun h=>h))
 replace f1:=f0.trans f1
 clear f0 r0 hr
 go_wp2_with fail
 go_quiet (first | (go_at_call 103;refine Calls.quiet_of_same (bit_true _)) | (go_at_call 103;refine Calls.quiet_of_same (yr _)))
 go_wp2
 go_ret2
 refine ⟨qp ?_ rfl,f1.trans (bo _ _)⟩
 have:=join_word 0 f 1 (by omega) (by omega) (by omega) h3 h4
 rw[show bits BinOp.or IntKind.u16 1 0=1 by decide]
 simpa using this
theorem enc_none (w:World) :
  Calls pQ 51 #[.agg #[β false,β false,U κ 0,U κ 0]] w fun e w'=>e=ρ (τ #[.int .u16 (0),U κ 0])∧Fr bg w w':=by
 have f0:=(Fr.refl bg w).alloc (ω (jh false false 0 0) 77)
 have r0:=ba w (jh false false 0 0) 77
 have hr:cj false false 0 0=true:=rfl
 unfold jh at f0
 go_enter Tryz.func51,Tryz.ntmps51
 go_wp2_with fail
 refine(sr _ _ _ _ _).mono ?_
 rintro e w1 ⟨rfl,f1⟩
 rw[hr]
 obtain ⟨c0,c1,c2,c3⟩:=du (r0.keep f1 (fun h=>h))
 replace f1:=f0.trans f1
 clear f0 r0 hr
 go_wp2_with fail
 go_quiet (first | (go_at_call 103;refine Calls.quiet_of_same (bit_true _)) | (go_at_call 103;refine Calls.quiet_of_same (yr _)))
 go_wp2
 go_ret2
 refine ⟨qp (by decide) rfl,f1.trans (bo _ _)⟩
theorem xo (x:Nat) (w:World) (hx:x<65536) :
  Calls pQ 188 #[.int .u16 (x:Int)] w fun e w'=>e=ρ (.agg #[β (pv x),β (pl x),U κ (pr x),U κ (pf x)])∧Fr bg w w':=by
 have b1:bits .and .u16 (x:Int) 1=(x:Int)%2:=by rw[and16_1 x hx];omega
 have b2:bits .and .u16 ((x:Int) / 2) 1=(x:Int) / 2%2:=by
  have:=and16_1 (x / 2) (by omega)
  rw[show((x / 2:Nat):Int)=(x:Int) / 2 by omega] at this
  rw[this];omega
 have b3:bits .and .u16 ((x:Int) / 4) 7=(x:Int) / 4%8:=by
  have:=and16_7 (x / 4) (by omega)
  rw[show((x / 4:Nat):Int)=(x:Int) / 4 by omega] at this
  rw[this];omega
 go_enter Tryz.func188,Tryz.ntmps188
 go_wp2
 refine bodyPost_ret (ret_cell rfl rfl (ba _ _ _) rfl) rfl ?_
 exact ⟨rfl,(Fr.refl _ _).alloc _⟩
theorem enc_ok (v l:Bool) (r f:Int) (w:World) (h:cj v l r f=true) :
  Calls pQ 51 #[.agg #[β v,β l,U κ r,U κ f]] w fun e w'=>e=ρ (τ #[.int .u16 (ky v l r f),U κ 0])∧Fr bg w w':=by
 rcases sg h with ⟨rfl,rfl,rfl,rfl⟩ | ⟨rfl,rfl,rfl,h1,h2⟩ | ⟨rfl,rfl,h1,h2,h3,h4⟩
 ·exact enc_none w
 ·rw[show ky true false 0 f=f*64+1 by simp[ky]];exact enc_node f w h1 h2
 ·rw[show ky true true r f=f*64+r*4+3 by simp[ky];omega];exact enc_leaf r f w h1 h2 h3 h4
theorem enc_parts (x:Nat) (w:World) (h:md x=true) :
  Calls pQ 51 #[.agg #[β (pv x),β (pl x),U κ (pr x),U κ (pf x)]] w fun e w'=>e=ρ (τ #[.int .u16 (x:Int),U κ 0])∧Fr bg w w':=by
 have:=enc_ok (pv x) (pl x) (pr x) (pf x) w (ok_right h)
 rwa [word_parts h] at this
theorem dy {w:World} {b:Nat} {cs:Array Value} {t:TypeId} (h:Row w b cs t) :
  w.frozen? ⟨b,0,none⟩=false∧w.frozen? ⟨b,1,none⟩=false∧w.frozen? ⟨b,2,none⟩=false∧w.frozen? ⟨b,3,none⟩=false:=
 ⟨h.frozen 0,h.frozen 1,h.frozen 2,h.frozen 3⟩
theorem jl {w:World} {b:Nat} {v l v' l':Bool} {r f r' f':Int} {t:TypeId} (h:Row w b (jh v l r f) t) :
  Row ((((w.setCell ⟨b,0,none⟩ (β v')).setCell ⟨b,1,none⟩ (β l')).setCell ⟨b,2,none⟩ (U κ r')).setCell ⟨b,3,none⟩ (U κ f')) b (jh v' l' r' f') t:=
 (((h.setCell 0 _).setCell 1 _).setCell 2 _).setCell 3 _
theorem kg {S:Nat→Prop} {w w1:World} {b:Nat} {v' l':Bool} {r' f':Int} (h:Fr S w w1) (hb:w.heap.size≤b∨S b) :
  Fr S w ((((w1.setCell ⟨b,0,none⟩ (β v')).setCell ⟨b,1,none⟩ (β l')).setCell ⟨b,2,none⟩ (U κ r')).setCell ⟨b,3,none⟩ (U κ f')):=
 (((h.setCell (p:=⟨b,0,none⟩) hb _).setCell (p:=⟨b,1,none⟩) hb _).setCell (p:=⟨b,2,none⟩) hb _).setCell (p:=⟨b,3,none⟩) hb _
theorem dec_good (x:Nat) (w:World) (hx:x<65536) (h:md x=true) :
  Calls pQ 187 #[.int .u16 (x:Int)] w fun e w'=>e=ρ (τ #[.agg #[β (pv x),β (pl x),U κ (pr x),U κ (pf x)],U κ 0])∧Fr bg w w':=by
 have f0:=(Fr.refl bg w).alloc (ω (jh false false 0 0) 77)
 have r0:=ba w (jh false false 0 0) 77
 unfold jh at f0
 go_enter Tryz.func187,Tryz.ntmps187
 go_wp2_with fail
 refine(xo _ _ hx).mono ?_
 rintro e w1 ⟨rfl,f1⟩
 have r1:=(r0.keep f1 (fun h=>h)).alloc (ω (jh (pv x) (pl x) (pr x) (pf x)) 77)
 have q1:=ba w1 (jh (pv x) (pl x) (pr x) (pf x)) 77
 replace f1:=(f0.trans f1).alloc (ω (jh (pv x) (pl x) (pr x) (pf x)) 77)
 unfold jh at f1
 clear f0 r0
 go_wp2_with fail
 refine(enc_parts _ _ h).mono ?_
 rintro e w2 ⟨rfl,f2⟩
 have r2:=r1.keep f2 (fun h=>h)
 have q2:=q1.keep f2 (fun h=>h)
 replace f2:=f1.trans f2
 clear r1 q1 f1
 obtain ⟨c0,c1,c2,c3⟩:=du r2
 obtain ⟨k0,k1,k2,k3⟩:=dy r2
 obtain ⟨d0,d1,d2,d3⟩:=du q2
 go_wp2_with fail
 refine bodyPost_ret (cw rfl rfl (jl r2) rfl) rfl ?_
 exact ⟨rfl,kg f2 (Or.inl (Nat.le_refl _))⟩
theorem dec_bad1 (x:Nat) (w:World) (hx:x<65536) (h:cj (pv x) (pl x) (pr x) (pf x)=false) :
  Calls pQ 187 #[.int .u16 (x:Int)] w fun e w'=>e=ρ (τ #[.agg #[β false,β false,U κ 0,U κ 0],U κ 20])∧Fr bg w w':=by
 have f0:=(Fr.refl bg w).alloc (ω (jh false false 0 0) 77)
 have r0:=ba w (jh false false 0 0) 77
 unfold jh at f0
 go_enter Tryz.func187,Tryz.ntmps187
 go_wp2_with fail
 refine(xo _ _ hx).mono ?_
 rintro e w1 ⟨rfl,f1⟩
 have r1:=(r0.keep f1 (fun h=>h)).alloc (ω (jh (pv x) (pl x) (pr x) (pf x)) 77)
 have q1:=ba w1 (jh (pv x) (pl x) (pr x) (pf x)) 77
 replace f1:=(f0.trans f1).alloc (ω (jh (pv x) (pl x) (pr x) (pf x)) 77)
 unfold jh at f1
 clear f0 r0
 go_wp2_with fail
 refine(enc_bad _ _ _ _ _ h).mono ?_
 rintro e w2 ⟨rfl,f2⟩
 have r2:=r1.keep f2 (fun h=>h)
 have q2:=q1.keep f2 (fun h=>h)
 replace f2:=f1.trans f2
 clear r1 q1 f1
 obtain ⟨c0,c1,c2,c3⟩:=du r2
 obtain ⟨k0,k1,k2,k3⟩:=dy r2
 obtain ⟨d0,d1,d2,d3⟩:=du q2
 go_wp2_with fail
 refine bodyPost_ret (cw rfl rfl (jl r2) rfl) rfl ?_
 exact ⟨rfl,kg f2 (Or.inl (Nat.le_refl _))⟩
theorem dec_bad2 (x:Nat) (w:World) (hx:x<65536) (h:cj (pv x) (pl x) (pr x) (pf x)=true) (hn:ky (pv x) (pl x) (pr x) (pf x)≠(x:Int)) :
  Calls pQ 187 #[.int .u16 (x:Int)] w fun e w'=>e=ρ (τ #[.agg #[β false,β false,U κ 0,U κ 0],U κ 20])∧Fr bg w w':=by
 have f0:=(Fr.refl bg w).alloc (ω (jh false false 0 0) 77)
 have r0:=ba w (jh false false 0 0) 77
 unfold jh at f0
 have t1:(ky (pv x) (pl x) (pr x) (pf x) != (x:Int))=true:=by simpa using hn
 go_enter Tryz.func187,Tryz.ntmps187
 go_wp2_with fail
 refine(xo _ _ hx).mono ?_
 rintro e w1 ⟨rfl,f1⟩
 have r1:=(r0.keep f1 (fun h=>h)).alloc (ω (jh (pv x) (pl x) (pr x) (pf x)) 77)
 have q1:=ba w1 (jh (pv x) (pl x) (pr x) (pf x)) 77
 replace f1:=(f0.trans f1).alloc (ω (jh (pv x) (pl x) (pr x) (pf x)) 77)
 unfold jh at f1
 clear f0 r0
 go_wp2_with fail
 refine(enc_ok _ _ _ _ _ h).mono ?_
 rintro e w2 ⟨rfl,f2⟩
 have r2:=r1.keep f2 (fun h=>h)
 have q2:=q1.keep f2 (fun h=>h)
 replace f2:=f1.trans f2
 clear r1 q1 f1
 obtain ⟨c0,c1,c2,c3⟩:=du r2
 obtain ⟨k0,k1,k2,k3⟩:=dy r2
 obtain ⟨d0,d1,d2,d3⟩:=du q2
 go_wp2_with fail
 refine bodyPost_ret (cw rfl rfl (jl r2) rfl) rfl ?_
 exact ⟨rfl,kg f2 (Or.inl (Nat.le_refl _))⟩
theorem dec_any (x:Nat) (w:World) (hx:x<65536) :
  Calls pQ 187 #[.int .u16 (x:Int)] w fun e w'=>e=ρ (τ #[.agg #[β (dv x),β (dl x),U κ (dr x),U κ (df x)],U κ (de x)])∧Fr bg w w':=by
 unfold dv dl dr df de
 by_cases h:md x=true
 ·rw[h];simpa using dec_good x w hx h
 ·have h':md x=false:=by simpa using h
  rw[h']
  simp only[Bool.false_and,Bool.false_eq_true,if_false]
  by_cases hr:cj (pv x) (pl x) (pr x) (pf x)=true
  ·exact dec_bad2 x w hx hr (bad_word h' hr)
  ·exact dec_bad1 x w hx (by simpa using hr)
theorem index_out (page level:Int) (w:World) (h:page<0∨1023<page) :
  Calls pQ 186 #[U κ page,U κ level] w fun e w'=>e=ρ (U κ 0)∧w=w':=by
 by_cases h0:page<0
 ·have t1:decide (page<0)=true:=by simpa using h0
  clear h h0
  go_enter Tryz.func186,Tryz.ntmps186
  go_wp2
  go_ret
  exact ⟨rfl,rfl⟩
 ·have t1:decide (page<0)=false:=by simpa using h0
  have t2:decide (1024≤page)=true:=by simp;omega
  clear h h0
  go_enter Tryz.func186,Tryz.ntmps186
  go_wp2
  go_ret
  exact ⟨rfl,rfl⟩
theorem index_in (page level:Int) (w:World) (h0:0≤page) (h1:page≤1023) :
  Calls pQ 186 #[U κ page,U κ level] w fun e w'=>e=ρ (U κ (if level=0 then page / 32 else if level=1 then page%32 else 0))∧w=w':=by
 have t1:decide (page<0)=false:=by simpa using h0
 have t2:decide (1024≤page)=false:=by simp;omega
 by_cases l0:level=0
 ·subst l0
  rw[if_pos rfl]
  go_enter Tryz.func186,Tryz.ntmps186
  go_wp2
  go_ret
  exact ⟨rfl,rfl⟩
 by_cases l1:level=1
 ·subst l1
  rw[if_neg l0,if_pos rfl]
  go_enter Tryz.func186,Tryz.ntmps186
  go_wp2
  go_ret
  exact ⟨rfl,rfl⟩
 ·rw[if_neg l0,if_neg l1]
  have t3:(level == 0)=false:=by simpa using l0
  have t4:(level == 1)=false:=by simpa using l1
  clear l0 l1
  go_enter Tryz.func186,Tryz.ntmps186
  go_wp2
  go_ret
  exact ⟨rfl,rfl⟩
def np (page level:Int):Int:=if page<0∨1023<page then 0 else if level=0 then page / 32 else if level=1 then page%32 else 0
theorem sx (page level:Int) (w:World):Calls pQ 186 #[U κ page,U κ level] w fun e w'=>e=ρ (U κ (np page level))∧w=w':=by
 unfold np
 by_cases h:page<0∨1023<page
 ·rw[if_pos h];exact index_out page level w h
 ·rw[if_neg h];exact index_in page level w (by omega) (by omega)
end Go.Proofs.YtibhbjbpodlpiaaGreat
