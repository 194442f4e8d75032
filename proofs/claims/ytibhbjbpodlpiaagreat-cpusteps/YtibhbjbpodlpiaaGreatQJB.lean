/-
  Contracts over the translation. No statement is proved here.
-/
import Derived.WalkKit
import Derived.WalkSpells
import Derived.WalkLawsBesides
import Derived.BigQuiet
import Derived.Deep.QuietTactic
import Derived.Lib.SliceRun
import Derived.Test.YtibhbjbpodlpiaaGreatQJA
set_option maxRecDepth 100000
set_option maxHeartbeats 8000000
namespace Go.Proofs.YtibhbjbpodlpiaaGreat
open Go.RowKit
open Go.Value renaming int → U, bool → β, pointer → π, tuple → τ
open Go.IntKind renaming i64 → κ, u32 → μ
open Go.Obj renaming cells → ω
open Go.Ending renaming returned → ρ
open Go.Proofs.Tryz renaming prog → pQ
def dk (addr size:Int) (nf:Nat):Int:=
 if size≠1∧size≠2∧size≠4 then 1
 else if addr.tmod size≠0 then 11
 else if addr<0∨64*(nf:Int)≤addr then 10
 else 0
theorem err_arg {addr size:Int} {nf:Nat} (h:size≠1∧size≠2∧size≠4):dk addr size nf=1:=by
 unfold dk;rw[if_pos h]
theorem yk {addr size:Int} {nf:Nat} (h:¬ (size≠1∧size≠2∧size≠4)) (h':addr.tmod size≠0):dk addr size nf=11:=by
 unfold dk;rw[if_neg h,if_pos h']
theorem pd {addr size:Int} {nf:Nat} (h:¬ (size≠1∧size≠2∧size≠4)) (h':¬ addr.tmod size≠0) (k:addr<0∨64*(nf:Int)≤addr):dk addr size nf=10:=by
 unfold dk;rw[if_neg h,if_neg h',if_pos k]
theorem err_none {addr size:Int} {nf:Nat} (h:¬ (size≠1∧size≠2∧size≠4)) (h':¬ addr.tmod size≠0) (k:¬ (addr<0∨64*(nf:Int)≤addr)):dk addr size nf=0:=by
 unfold dk;rw[if_neg h,if_neg h',if_neg k]
theorem te {addr size:Int} {nf:Nat} (h:dk addr size nf=0):(size=1∨size=2∨size=4)∧addr.tmod size=0∧0≤addr∧addr<64*(nf:Int):=by
 by_cases a:size≠1∧size≠2∧size≠4
 ·rw[err_arg a] at h;omega
 by_cases b:addr.tmod size≠0
 ·rw[yk a b] at h;omega
 by_cases c:addr<0∨64*(nf:Int)≤addr
 ·rw[pd a b c] at h;omega
 exact ⟨by omega,by omega,by omega,by omega⟩
theorem sm (b bf:Nat) (nf:Nat) (n:Int) (w:World) (h:w.cell? ⟨b,0,none⟩=some (.slice (some ⟨bf,0,none⟩) nf nf)) (hn:0≤n) :
  Calls pQ 94 #[π (some ⟨b,0,none⟩),U κ n] w fun e w'=>e=ρ (β (decide (n<(nf:Int))))∧w'=w:=by
 go_enter Tryz.func94,Tryz.ntmps94
 go_wp2
 go_ret
 exact ⟨rfl,rfl⟩
theorem tz {bf o o' l l' c c':Nat} {e:Int} (ho:o=o') (hl:l=l') (hc:c=c') :
  Ending.returned (τ #[.slice (some ⟨bf,o,none⟩) l c,U κ e])=Ending.returned (τ #[.slice (some ⟨bf,o',none⟩) l' c',U κ e]):=by
 rw[ho,hl,hc]
theorem qq (b bf:Nat) (nf:Nat) (addr size:Int) (w:World) (h:w.cell? ⟨b,0,none⟩=some (.slice (some ⟨bf,0,none⟩) nf nf)) (hn:nf≤1024) (he:dk addr size nf=0) :
  Calls pQ 54 #[π (some ⟨b,0,none⟩),U κ addr,U κ size] w fun e w'=>e=ρ (τ #[.slice (some ⟨bf,addr.toNat,none⟩) size.toNat (64-addr.toNat%64),U κ 0])∧w'=w:=by
 obtain ⟨hs,ha,h0,h1⟩:=te he
 clear he
 rw[Int.tmod_eq_emod_of_nonneg h0] at ha
 have e1:0≤addr%64:=by omega
 have e4:0≤addr / 64:=by omega
 have e5:addr / 64<(nf:Int):=by omega
 rcases hs with rfl | rfl | rfl
 ·have e2:addr%64≤addr%64+1:=by omega
  have e3:addr%64+1≤64:=by omega
  clear ha
  go_enter Tryz.func54,Tryz.ntmps54
  go_wp2_with (go_at_call 94;refine(sm _ _ _ _ _ h (by omega)).mono ?_;rintro e w' ⟨rfl,rfl⟩)
  go_ret2
  exact ⟨tz (by omega) (by omega) (by omega),rfl⟩
 ·have e2:addr%64≤addr%64+2:=by omega
  have e3:addr%64+2≤64:=by omega
  go_enter Tryz.func54,Tryz.ntmps54
  go_wp2_with (go_at_call 94;refine(sm _ _ _ _ _ h (by omega)).mono ?_;rintro e w' ⟨rfl,rfl⟩)
  go_ret2
  exact ⟨tz (by omega) (by omega) (by omega),rfl⟩
 ·have e2:addr%64≤addr%64+4:=by omega
  have e3:addr%64+4≤64:=by omega
  go_enter Tryz.func54,Tryz.ntmps54
  go_wp2_with (go_at_call 94;refine(sm _ _ _ _ _ h (by omega)).mono ?_;rintro e w' ⟨rfl,rfl⟩)
  go_ret2
  exact ⟨tz (by omega) (by omega) (by omega),rfl⟩
theorem place_arg (b:Nat) (addr size:Int) (w:World) (hs:size≠1∧size≠2∧size≠4) :
  Calls pQ 54 #[π (some ⟨b,0,none⟩),U κ addr,U κ size] w fun e w'=>e=ρ (τ #[.slice none 0 0,U κ 1])∧w'=w:=by
 have e1:(size != 1)=true:=by simp;omega
 have e2:(size != 2)=true:=by simp;omega
 have e4:(size != 4)=true:=by simp;omega
 clear hs
 go_enter Tryz.func54,Tryz.ntmps54
 go_wp2
 go_ret2
 exact ⟨rfl,rfl⟩
theorem place_align (b:Nat) (addr size:Int) (w:World) (hs:size=1∨size=2∨size=4) (ha:addr.tmod size≠0) :
  Calls pQ 54 #[π (some ⟨b,0,none⟩),U κ addr,U κ size] w fun e w'=>e=ρ (τ #[.slice none 0 0,U κ 11])∧w'=w:=by
 rcases hs with rfl | rfl | rfl
 ·simp at ha
 ·have e1:(addr.tmod 2 != 0)=true:=by simpa using ha
  go_enter Tryz.func54,Tryz.ntmps54
  go_wp2
  go_ret2
  exact ⟨rfl,rfl⟩
 ·have e1:(addr.tmod 4 != 0)=true:=by simpa using ha
  go_enter Tryz.func54,Tryz.ntmps54
  go_wp2
  go_ret2
  exact ⟨rfl,rfl⟩
theorem place_neg (b:Nat) (addr size:Int) (w:World) (hs:size=1∨size=2∨size=4) (ha:addr.tmod size=0) (h0:addr<0) :
  Calls pQ 54 #[π (some ⟨b,0,none⟩),U κ addr,U κ size] w fun e w'=>e=ρ (τ #[.slice none 0 0,U κ 10])∧w'=w:=by
 have hd:decide (addr<0)=true:=by simpa using h0
 rcases hs with rfl | rfl | rfl
 ·clear ha
  go_enter Tryz.func54,Tryz.ntmps54
  go_wp2
  go_ret2
  exact ⟨rfl,rfl⟩
 ·have e1:(addr.tmod 2 != 0)=false:=by simpa using ha
  go_enter Tryz.func54,Tryz.ntmps54
  go_wp2
  go_ret2
  exact ⟨rfl,rfl⟩
 ·have e1:(addr.tmod 4 != 0)=false:=by simpa using ha
  go_enter Tryz.func54,Tryz.ntmps54
  go_wp2
  go_ret2
  exact ⟨rfl,rfl⟩
theorem place_far (b bf:Nat) (nf:Nat) (addr size:Int) (w:World) (h:w.cell? ⟨b,0,none⟩=some (.slice (some ⟨bf,0,none⟩) nf nf)) (hs:size=1∨size=2∨size=4) (ha:addr.tmod size=0) (h0:0≤addr) (h1:64*(nf:Int)≤addr) (hm:addr≤9223372036854775807) :
  Calls pQ 54 #[π (some ⟨b,0,none⟩),U κ addr,U κ size] w fun e w'=>e=ρ (τ #[.slice none 0 0,U κ 10])∧w'=w:=by
 rw[Int.tmod_eq_emod_of_nonneg h0] at ha
 have e5:decide (addr / 64<(nf:Int))=false:=by simp;omega
 have e4:0≤addr / 64:=by omega
 rcases hs with rfl | rfl | rfl
 ·clear ha
  go_enter Tryz.func54,Tryz.ntmps54
  go_wp2_with (go_at_call 94;refine(sm _ _ _ _ _ h (by omega)).mono ?_;rintro e w' ⟨rfl,rfl⟩)
  go_ret2
  exact ⟨rfl,rfl⟩
 ·go_enter Tryz.func54,Tryz.ntmps54
  go_wp2_with (go_at_call 94;refine(sm _ _ _ _ _ h (by omega)).mono ?_;rintro e w' ⟨rfl,rfl⟩)
  go_ret2
  exact ⟨rfl,rfl⟩
 ·go_enter Tryz.func54,Tryz.ntmps54
  go_wp2_with (go_at_call 94;refine(sm _ _ _ _ _ h (by omega)).mono ?_;rintro e w' ⟨rfl,rfl⟩)
  go_ret2
  exact ⟨rfl,rfl⟩
theorem place_bad (b bf:Nat) (nf:Nat) (addr size:Int) (w:World) (h:w.cell? ⟨b,0,none⟩=some (.slice (some ⟨bf,0,none⟩) nf nf)) (he:dk addr size nf≠0) (hm:addr≤9223372036854775807) :
  Calls pQ 54 #[π (some ⟨b,0,none⟩),U κ addr,U κ size] w fun e w'=>e=ρ (τ #[.slice none 0 0,U κ (dk addr size nf)])∧w'=w:=by
 by_cases a:size≠1∧size≠2∧size≠4
 ·rw[err_arg a];exact place_arg b addr size w a
 have a':size=1∨size=2∨size=4:=by omega
 by_cases c:addr.tmod size≠0
 ·rw[yk a c];exact place_align b addr size w a' c
 by_cases d:addr<0∨64*(nf:Int)≤addr
 ·rw[pd a c d]
  by_cases d0:addr<0
  ·exact place_neg b addr size w a' (by omega) d0
  ·exact place_far b bf nf addr size w h a' (by omega) (by omega) (by omega) hm
 ·exact absurd (err_none a c d) he
structure IsRam (w:World) (p bf nf:Nat) (bs:List UInt8):Prop where
 head:Row w p #[.slice (some ⟨bf,0,none⟩) nf nf] 137
 row:Row w bf (cu bs) 173
 len:bs.length=64*nf
 most:nf≤1024
 apart:p≠bf
theorem IsRam.hcell {w:World} {p bf nf:Nat} {bs:List UInt8} (h:IsRam w p bf nf bs):w.cell? ⟨p,0,none⟩=some (.slice (some ⟨bf,0,none⟩) nf nf):=by
 rw[h.head.cell 0];rfl
theorem IsRam.bcell {w:World} {p bf nf:Nat} {bs:List UInt8} (h:IsRam w p bf nf bs) (i:Nat) (hi:i<bs.length):w.cell? ⟨bf,i,none⟩=some (.int .u8 ((bs[i].toNat:Nat):Int)):=by
 rw[h.row.cell i,mf bs i hi];rfl
theorem IsRam.keep {S:Nat→Prop} {w w':World} {p bf nf:Nat} {bs:List UInt8} (h:IsRam w p bf nf bs) (f:Fr S w w') (hp:¬ S p) (hb:¬ S bf):IsRam w' p bf nf bs:=
 ⟨h.head.keep f hp,h.row.keep f hb,h.len,h.most,h.apart⟩
theorem qn {a b:Int} (h:a=b):Ending.returned (τ #[U μ a,U κ 0])=ρ (τ #[U μ b,U κ 0]):=by rw[h]
theorem load1 (b bf nf a x0:Nat) (w:World) (h:w.cell? ⟨b,0,none⟩=some (.slice (some ⟨bf,0,none⟩) nf nf)) (hn:nf≤1024) (he:dk a 1 nf=0)
  (c0:w.cell? ⟨bf,a,none⟩=some (.int .u8 (x0:Int))) (h0:x0<256) :
  Calls pQ 106 #[π (some ⟨b,0,none⟩),U κ (a:Int),U κ 1] w fun e w'=>e=ρ (τ #[U μ ((x0+256*0:Nat):Int),U κ 0])∧w'=w:=by
 have HE:Hid (dk a 1 nf=0):=he
 clear he
 go_enter Tryz.func106,Tryz.ntmps106
 go_wp2_with (go_at_call 54;refine(qq _ _ _ _ _ _ h hn HE).mono ?_;rintro e w' ⟨rfl,rfl⟩)
 refine wp_loop_rounds 2 ?_
 rw[rounds_succ];go_wp2
 rw[rounds_succ];go_wp2
 go_ret2
 exact ⟨qn (or32_one x0 h0),rfl⟩
theorem load2 (b bf nf a x0 x1:Nat) (w:World) (h:w.cell? ⟨b,0,none⟩=some (.slice (some ⟨bf,0,none⟩) nf nf)) (hn:nf≤1024) (he:dk a 2 nf=0)
  (c0:w.cell? ⟨bf,a,none⟩=some (.int .u8 (x0:Int))) (c1:w.cell? ⟨bf,a+1,none⟩=some (.int .u8 (x1:Int))) (h0:x0<256) (h1:x1<256) :
  Calls pQ 106 #[π (some ⟨b,0,none⟩),U κ (a:Int),U κ 2] w fun e w'=>e=ρ (τ #[U μ ((x0+256*(x1+256*0):Nat):Int),U κ 0])∧w'=w:=by
 have HE:Hid (dk a 2 nf=0):=he
 clear he
 go_enter Tryz.func106,Tryz.ntmps106
 go_wp2_with (go_at_call 54;refine(qq _ _ _ _ _ _ h hn HE).mono ?_;rintro e w' ⟨rfl,rfl⟩)
 refine wp_loop_rounds 3 ?_
 rw[rounds_succ];go_wp2
 rw[rounds_succ];go_wp2
 rw[rounds_succ];go_wp2
 go_ret2
 exact ⟨qn (or32_two x0 x1 h0 h1),rfl⟩
theorem load4 (b bf nf a x0 x1 x2 x3:Nat) (w:World) (h:w.cell? ⟨b,0,none⟩=some (.slice (some ⟨bf,0,none⟩) nf nf)) (hn:nf≤1024) (he:dk a 4 nf=0)
  (c0:w.cell? ⟨bf,a,none⟩=some (.int .u8 (x0:Int))) (c1:w.cell? ⟨bf,a+1,none⟩=some (.int .u8 (x1:Int))) (c2:w.cell? ⟨bf,a+2,none⟩=some (.int .u8 (x2:Int))) (c3:w.cell? ⟨bf,a+3,none⟩=some (.int .u8 (x3:Int)))
  (h0:x0<256) (h1:x1<256) (h2:x2<256) (h3:x3<256) :
  Calls pQ 106 #[π (some ⟨b,0,none⟩),U κ (a:Int),U κ 4] w fun e w'=>e=ρ (τ #[U μ ((x0+256*(x1+256*(x2+256*(x3+256*0))):Nat):Int),U κ 0])∧w'=w:=by
 have HE:Hid (dk a 4 nf=0):=he
 clear he
 go_enter Tryz.func106,Tryz.ntmps106
 go_wp2_with (go_at_call 54;refine(qq _ _ _ _ _ _ h hn HE).mono ?_;rintro e w' ⟨rfl,rfl⟩)
 refine wp_loop_rounds 5 ?_
 rw[rounds_succ];go_wp2
 rw[rounds_succ];go_wp2
 rw[rounds_succ];go_wp2
 rw[rounds_succ];go_wp2
 rw[rounds_succ];go_wp2
 go_ret2
 exact ⟨qn (or32_four x0 x1 x2 x3 h0 h1 h2 h3),rfl⟩
theorem load_bad (b bf nf:Nat) (addr size:Int) (w:World) (h:w.cell? ⟨b,0,none⟩=some (.slice (some ⟨bf,0,none⟩) nf nf)) (he:dk addr size nf≠0) (hm:addr≤9223372036854775807) :
  Calls pQ 106 #[π (some ⟨b,0,none⟩),U κ addr,U κ size] w fun e w'=>e=ρ (τ #[U μ 0,U κ (dk addr size nf)])∧w'=w:=by
 have hb:(dk addr size nf != 0)=true:=by simpa using he
 go_enter Tryz.func106,Tryz.ntmps106
 go_wp2_with (go_at_call 54;refine(place_bad _ _ _ _ _ _ h he hm).mono ?_;rintro e w' ⟨rfl,rfl⟩)
 go_ret2
 exact ⟨rfl,rfl⟩
def j5 (bs:List UInt8) (addr size:Int) (nf:Nat):Int:=
 if dk addr size nf=0 then((numOf ((bs.drop addr.toNat).take size.toNat):Nat):Int) else 0
theorem numOf_1 (bs:List UInt8) (a:Nat) (h:a<bs.length):numOf ((bs.drop a).take 1)=bs[a].toNat+256*0:=by
 rw[List.drop_eq_getElem_cons h,List.take_succ_cons,List.take_zero];rfl
theorem numOf_2 (bs:List UInt8) (a:Nat) (h:a+1<bs.length):numOf ((bs.drop a).take 2)=bs[a].toNat+256*(bs[a+1].toNat+256*0):=by
 rw[List.drop_eq_getElem_cons (by omega),List.drop_eq_getElem_cons h,List.take_succ_cons,List.take_succ_cons,List.take_zero];rfl
theorem numOf_4 (bs:List UInt8) (a:Nat) (h:a+3<bs.length):numOf ((bs.drop a).take 4)=bs[a].toNat+256*(bs[a+1].toNat+256*(bs[a+2].toNat+256*(bs[a+3].toNat+256*0))):=by
 rw[List.drop_eq_getElem_cons (by omega),List.drop_eq_getElem_cons (i:=a+1) (by omega),List.drop_eq_getElem_cons (i:=a+1+1) (by omega),List.drop_eq_getElem_cons (i:=a+1+1+1) h,List.take_succ_cons,List.take_succ_cons,List.take_succ_cons,List.take_succ_cons,List.take_zero];rfl
theorem load_any (w:World) (p bf nf:Nat) (bs:List UInt8) (addr size:Int) (h:IsRam w p bf nf bs) (hm:addr≤9223372036854775807) :
  Calls pQ 106 #[π (some ⟨p,0,none⟩),U κ addr,U κ size] w fun e w'=>e=ρ (τ #[U μ (j5 bs addr size nf),U κ (dk addr size nf)])∧w'=w:=by
 by_cases he:dk addr size nf=0
 ·obtain ⟨hs,ha,h0,h1⟩:=te he
  obtain ⟨a,rfl⟩:=Int.eq_ofNat_of_zero_le h0
  rw[Int.tmod_eq_emod_of_nonneg h0] at ha
  have hl:=h.len
  rw[j5,if_pos he,he,Int.toNat_natCast]
  rcases hs with rfl | rfl | rfl
  ·rw[show(1:Int).toNat=1 from rfl,numOf_1 bs a (by omega)]
   exact load1 p bf nf a _ w h.hcell h.most he (h.bcell a (by omega)) (UInt8.toNat_lt _)
  ·rw[show(2:Int).toNat=2 from rfl,numOf_2 bs a (by omega)]
   exact load2 p bf nf a _ _ w h.hcell h.most he (h.bcell a (by omega)) (h.bcell (a+1) (by omega)) (UInt8.toNat_lt _) (UInt8.toNat_lt _)
  ·rw[show(4:Int).toNat=4 from rfl,numOf_4 bs a (by omega)]
   exact load4 p bf nf a _ _ _ _ w h.hcell h.most he (h.bcell a (by omega)) (h.bcell (a+1) (by omega)) (h.bcell (a+2) (by omega)) (h.bcell (a+3) (by omega)) (UInt8.toNat_lt _) (UInt8.toNat_lt _) (UInt8.toNat_lt _) (UInt8.toNat_lt _)
 ·rw[j5,if_neg he]
  exact load_bad p bf nf addr size w h.hcell he hm
theorem store1 (b bf nf a v:Nat) (y0:Value) (w:World) (h:w.cell? ⟨b,0,none⟩=some (.slice (some ⟨bf,0,none⟩) nf nf)) (hn:nf≤1024) (he:dk a 1 nf=0)
  (c0:w.cell? ⟨bf,a,none⟩=some y0) (f:∀ i,w.frozen? ⟨bf,i,none⟩=false) :
  Calls pQ 23 #[π (some ⟨b,0,none⟩),U κ (a:Int),U κ 1,U μ (v:Int)] w fun e w'=>e=ρ (U κ 0)∧w.setCell ⟨bf,a,none⟩ (.int .u8 ((v:Int)%256))=w':=by
 have HE:Hid (dk a 1 nf=0):=he
 clear he
 go_enter Tryz.func23,Tryz.ntmps23
 go_wp2_with (go_at_call 54;refine(qq _ _ _ _ _ _ h hn HE).mono ?_;rintro e w' ⟨rfl,rfl⟩)
 refine wp_loop_rounds 2 ?_
 rw[rounds_succ];go_wp2
 rw[rounds_succ];go_wp2
 go_ret
 exact ⟨rfl,rfl⟩
theorem store2 (b bf nf a v:Nat) (y0 y1:Value) (w:World) (h:w.cell? ⟨b,0,none⟩=some (.slice (some ⟨bf,0,none⟩) nf nf)) (hn:nf≤1024) (he:dk a 2 nf=0)
  (c0:w.cell? ⟨bf,a,none⟩=some y0) (c1:w.cell? ⟨bf,a+1,none⟩=some y1) (f:∀ i,w.frozen? ⟨bf,i,none⟩=false) :
  Calls pQ 23 #[π (some ⟨b,0,none⟩),U κ (a:Int),U κ 2,U μ (v:Int)] w fun e w'=>e=ρ (U κ 0) ∧
   (w.setCell ⟨bf,a,none⟩ (.int .u8 ((v:Int)%256))).setCell ⟨bf,a+1,none⟩ (.int .u8 ((v:Int) / 256%256))=w':=by
 have HE:Hid (dk a 2 nf=0):=he
 clear he
 go_enter Tryz.func23,Tryz.ntmps23
 go_wp2_with (go_at_call 54;refine(qq _ _ _ _ _ _ h hn HE).mono ?_;rintro e w' ⟨rfl,rfl⟩)
 refine wp_loop_rounds 3 ?_
 rw[rounds_succ];go_wp2
 rw[rounds_succ];go_wp2
 rw[rounds_succ];go_wp2
 go_ret
 exact ⟨rfl,rfl⟩
theorem store4 (b bf nf a v:Nat) (y0 y1 y2 y3:Value) (w:World) (h:w.cell? ⟨b,0,none⟩=some (.slice (some ⟨bf,0,none⟩) nf nf)) (hn:nf≤1024) (he:dk a 4 nf=0) (hv:v<4294967296)
  (c0:w.cell? ⟨bf,a,none⟩=some y0) (c1:w.cell? ⟨bf,a+1,none⟩=some y1) (c2:w.cell? ⟨bf,a+2,none⟩=some y2) (c3:w.cell? ⟨bf,a+3,none⟩=some y3)
  (f:∀ i,w.frozen? ⟨bf,i,none⟩=false) :
  Calls pQ 23 #[π (some ⟨b,0,none⟩),U κ (a:Int),U κ 4,U μ (v:Int)] w fun e w'=>e=ρ (U κ 0) ∧
   (((w.setCell ⟨bf,a,none⟩ (.int .u8 ((v:Int)%256))).setCell ⟨bf,a+1,none⟩ (.int .u8 ((v:Int) / 256%256))).setCell ⟨bf,a+2,none⟩ (.int .u8 ((v:Int) / 65536%256))).setCell ⟨bf,a+3,none⟩ (.int .u8 ((v:Int) / 16777216))=w':=by
 have HE:Hid (dk a 4 nf=0):=he
 clear he
 go_enter Tryz.func23,Tryz.ntmps23
 go_wp2_with (go_at_call 54;refine(qq _ _ _ _ _ _ h hn HE).mono ?_;rintro e w' ⟨rfl,rfl⟩)
 refine wp_loop_rounds 5 ?_
 rw[rounds_succ];go_wp2
 rw[rounds_succ];go_wp2
 rw[rounds_succ];go_wp2
 rw[rounds_succ];go_wp2
 rw[rounds_succ];go_wp2
 go_ret
 exact ⟨rfl,rfl⟩
theorem store_bad (b bf nf:Nat) (addr size v:Int) (w:World) (h:w.cell? ⟨b,0,none⟩=some (.slice (some ⟨bf,0,none⟩) nf nf)) (he:dk addr size nf≠0) (hm:addr≤9223372036854775807) :
  Calls pQ 23 #[π (some ⟨b,0,none⟩),U κ addr,U κ size,U μ v] w fun e w'=>e=ρ (U κ (dk addr size nf))∧w=w':=by
 have hb:(dk addr size nf != 0)=true:=by simpa using he
 go_enter Tryz.func23,Tryz.ntmps23
 go_wp2_with (go_at_call 54;refine(place_bad _ _ _ _ _ _ h he hm).mono ?_;rintro e w' ⟨rfl,rfl⟩)
 go_ret
 exact ⟨rfl,rfl⟩
def kj (bs:List UInt8) (addr size:Int) (nf v:Nat):List UInt8:=
 if dk addr size nf=0 then nh bs addr.toNat (l4 size.toNat v) else bs
theorem IsRam.set {w:World} {p bf nf:Nat} {bs:List UInt8} (h:IsRam w p bf nf bs) (a:Nat) (x:UInt8):IsRam (w.setCell ⟨bf,a,none⟩ (U8 x)) p bf nf (bs.set a x):=
 ⟨h.head.setCell_other (Ne.symm h.apart) _,by rw[←qf];exact h.row.setCell a _,by simp[h.len],h.most,h.apart⟩
theorem lx {w:World} {p bf nf:Nat} {bs:List UInt8} (h:IsRam w p bf nf bs) (a:Nat) (v:Nat) (y:Int) (e:y=((v:Nat):Int)%256) :
  IsRam (w.setCell ⟨bf,a,none⟩ (.int .u8 y)) p bf nf (bs.set a (UInt8.ofNat v)):=by
 subst e;rw[←U8_ofNat];exact h.set a _
theorem ws (w:World) (p bf nf:Nat) (bs:List UInt8) (addr size:Int) (v:Nat) (h:IsRam w p bf nf bs) (hm:addr≤9223372036854775807) (hv:v<4294967296) :
  Calls pQ 23 #[π (some ⟨p,0,none⟩),U κ addr,U κ size,U μ (v:Int)] w fun e w' =>
   e=ρ (U κ (dk addr size nf))∧Fr (at' bf) w w'∧IsRam w' p bf nf (kj bs addr size nf v):=by
 by_cases he:dk addr size nf=0
 ·obtain ⟨hs,ha,h0,h1⟩:=te he
  obtain ⟨a,rfl⟩:=Int.eq_ofNat_of_zero_le h0
  rw[Int.tmod_eq_emod_of_nonneg h0] at ha
  have hl:=h.len
  rw[kj,if_pos he,he,Int.toNat_natCast]
  rcases hs with rfl | rfl | rfl
  ·rw[show(1:Int).toNat=1 from rfl]
   refine(store1 p bf nf a v _ w h.hcell h.most he (h.bcell a (by omega)) (fun i=>h.row.frozen i)).mono ?_
   rintro e w' ⟨rfl,rfl⟩
   refine ⟨rfl,cy _ _ _ _ (Fr.refl _ _),?_⟩
   simp only[l4,nh]
   exact lx h a v _ rfl
  ·rw[show(2:Int).toNat=2 from rfl]
   refine(store2 p bf nf a v _ _ w h.hcell h.most he (h.bcell a (by omega)) (h.bcell (a+1) (by omega)) (fun i=>h.row.frozen i)).mono ?_
   rintro e w' ⟨rfl,rfl⟩
   refine ⟨rfl,cy _ _ _ _ (cy _ _ _ _ (Fr.refl _ _)),?_⟩
   simp only[l4,nh]
   exact lx (lx h a v _ rfl) (a+1) (v / 256) _ (by omega)
  ·rw[show(4:Int).toNat=4 from rfl]
   refine(store4 p bf nf a v _ _ _ _ w h.hcell h.most he hv (h.bcell a (by omega)) (h.bcell (a+1) (by omega)) (h.bcell (a+2) (by omega)) (h.bcell (a+3) (by omega)) (fun i=>h.row.frozen i)).mono ?_
   rintro e w' ⟨rfl,rfl⟩
   refine ⟨rfl,cy _ _ _ _ (cy _ _ _ _ (cy _ _ _ _ (cy _ _ _ _ (Fr.refl _ _)))),?_⟩
   simp only[l4,nh]
   exact lx (lx (lx (lx h a v _ rfl) (a+1) (v / 256) _ (by omega)) (a+1+1) (v / 256 / 256) _ (by omega)) (a+1+1+1) (v / 256 / 256 / 256) _ (by omega)
 ·rw[kj,if_neg he]
  refine(store_bad p bf nf addr size v w h.hcell he hm).mono ?_
  rintro e w' ⟨rfl,rfl⟩
  exact ⟨rfl,Fr.refl _ _,h⟩
theorem info59:(Tryz.prog.info? 173).map (fun i=>(i.zero,i.bytes,i.size))=some (some (.agg (Array.replicate 64 (.int .u8 0))),64,64):=by kernel_rfl
theorem made_zeros (n:Nat):madeCells (Array.replicate 64 (.int .u8 0)) (n*64)=cu (List.replicate (64*n) 0):=by
 apply Array.ext
 ·simp[size_madeCells,no,Nat.mul_comm]
 ·intro i h1 h2
  have h3:i%64<64:=Nat.mod_lt _ (by omega)
  simp[madeCells,cu,U8,h3]
theorem make_frames (n:Nat) (h2:n≤1024) (w:World):(Instr.makeSlice 135 (U κ (n:Int)) (U κ (n:Int))).run pQ w =
  .ok (.slice (some ⟨w.heap.size,0,none⟩) n n) (w.alloc (ω (cu (List.replicate (64*n) 0)) 173)):=by
 have hi:=info59
 cases hq:Tryz.prog.info? 173 with
 | none=>simp[hq] at hi
 | some i =>
  rw[hq] at hi
  simp only[Option.map_some,Option.some.injEq,Prod.mk.injEq] at hi
  obtain ⟨hz,hb,hs⟩:=hi
  have:=run_make (P:=pQ) w 135 173 i _ Tryz.underlying135 hq hz .i64 .i64 n n (by omega) (by omega) (by rw[hb];omega) (by omega)
  rw[this,hs,Int.toNat_natCast]
  simp only[Value.cells,made_zeros]
theorem new_ok (n:Nat) (w:World) (h1:1≤n) (h2:n≤1024) :
  Calls pQ 18 #[U κ (n:Int)] w fun e w'=>e=ρ (τ #[π (some ⟨w.heap.size+1,0,none⟩),U κ 0]) ∧
   (w.alloc (ω (cu (List.replicate (64*n) 0)) 173)).alloc (ω #[.slice (some ⟨w.heap.size,0,none⟩) n n] 137)=w':=by
 have hd:decide ((n:Int)<1)=false:=by simp;omega
 have hd2:decide (1024<(n:Int))=false:=by simp;omega
 have hmk:=make_frames n h2
 generalize cu (List.replicate (64*n) 0)=zs at *
 go_enter Tryz.func18,Tryz.ntmps18
 go_wp2
 go_ret2
 exact ⟨rfl,rfl⟩
theorem new_any (n:Int) (w:World) (h:1≤n∧n≤1024) :
  Calls pQ 18 #[U κ n] w fun e w'=>e=ρ (τ #[π (some ⟨w.heap.size+1,0,none⟩),U κ 0]) ∧
   Fr bg w w'∧IsRam w' (w.heap.size+1) w.heap.size n.toNat (List.replicate (64*n.toNat) 0):=by
 obtain ⟨m,rfl⟩:=Int.eq_ofNat_of_zero_le (show 0≤n by omega)
 rw[Int.toNat_natCast]
 refine(new_ok m w (by omega) (by omega)).mono ?_
 rintro e w' ⟨rfl,rfl⟩
 refine ⟨rfl,((Fr.refl _ w).alloc _).alloc _,?_,(ba _ _ _).alloc _,by simp,by omega,by omega⟩
 have:=ba (w.alloc (ω (cu (List.replicate (64*m) 0)) 173)) #[.slice (some ⟨w.heap.size,0,none⟩) m m] 137
 rwa [show(w.alloc (ω (cu (List.replicate (64*m) 0)) 173)).heap.size=w.heap.size+1 by simp] at this
theorem jg (w:World) (p bf nf:Nat) (bs:List UInt8) (h:IsRam w p bf nf bs) :
  Calls pQ 101 #[π (some ⟨p,0,none⟩)] w fun e w'=>e=ρ (U κ (nf:Int))∧w=w':=by
 have hc:=h.hcell
 clear h
 go_enter Tryz.func101,Tryz.ntmps101
 go_wp2
 go_ret
 exact ⟨rfl,rfl⟩
def kn (t i:Int) (nf:Nat):Int:=if i<0∨31<i then 1 else if t<0∨(nf:Int)≤t then 10 else 0
def cc (bs:List UInt8) (t i:Nat):Nat:=numOf ((bs.drop (t*64+i*2)).take 2)
theorem numOf_lt:∀ l:List UInt8,numOf l<256 ^ l.length
 | []=>by simp[numOf]
 | x :: r=>by
  have h1:=numOf_lt r
  have h2:=UInt8.toNat_lt x
  simp only[numOf,List.length_cons,Nat.pow_succ]
  omega
theorem half_lt (bs:List UInt8) (t i:Nat):cc bs t i<65536:=by
 have h1:=numOf_lt ((bs.drop (t*64+i*2)).take 2)
 have h2:((bs.drop (t*64+i*2)).take 2).length≤2:=by simp;omega
 have h3:256 ^ ((bs.drop (t*64+i*2)).take 2).length≤256 ^ 2:=Nat.pow_le_pow_right (by omega) h2
 unfold cc
 omega
theorem qx (t i nf:Nat) (ht:t<nf) (hi:i<32):dk ((t*64+i*2:Nat):Int) 2 nf=0:=by
 refine err_none (by omega) ?_ (by omega)
 rw[Int.tmod_eq_emod_of_nonneg (by omega)];omega
theorem xm {t i:Int} {nf:Nat} (h:kn t i nf=0):∃ a b:Nat,t=a∧i=b∧a<nf∧b<32:=by
 unfold kn at h
 by_cases h1:i<0∨31<i
 ·rw[if_pos h1] at h;omega
 ·rw[if_neg h1] at h
  by_cases h2:t<0∨(nf:Int)≤t
  ·rw[if_pos h2] at h;omega
  ·exact ⟨t.toNat,i.toNat,by omega,by omega,by omega,by omega⟩
theorem xk (w:World) (p bf nf:Nat) (bs:List UInt8) (t i:Nat) (h:IsRam w p bf nf bs) (ht:t<nf) (hi:i<32) :
  Calls pQ 50 #[π (some ⟨p,0,none⟩),U κ (t:Int),U κ (i:Int)] w fun e w'=>e=ρ (τ #[U κ ((t:Int)*64+(i:Int)*2),U κ 0])∧w=w':=by
 have hm:=h.most
 have t1:decide ((i:Int)<0)=false:=by simp
 have t2:decide (32≤(i:Int))=false:=by simp;omega
 have t3:decide ((t:Int)<0)=false:=by simp
 have t4:decide ((nf:Int)≤(t:Int))=false:=by simp;omega
 go_enter Tryz.func50,Tryz.ntmps50
 go_wp2_with (go_at_call 101;refine(jg _ _ _ _ _ h).mono ?_;rintro e w' ⟨rfl,rfl⟩)
 go_ret2
 exact ⟨rfl,rfl⟩
theorem pplace_bad (w:World) (p bf nf:Nat) (bs:List UInt8) (t i:Int) (h:IsRam w p bf nf bs) (he:kn t i nf≠0) :
  Calls pQ 50 #[π (some ⟨p,0,none⟩),U κ t,U κ i] w fun e w'=>e=ρ (τ #[U κ 0,U κ (kn t i nf)])∧w=w':=by
 unfold kn at he ⊢
 by_cases a:i<0
 ·have t1:decide (i<0)=true:=by simpa using a
  rw[if_pos (Or.inl a)]
  clear he a
  go_enter Tryz.func50,Tryz.ntmps50
  go_wp2
  go_ret2
  exact ⟨rfl,rfl⟩
 by_cases b:31<i
 ·have t1:decide (i<0)=false:=by simpa using a
  have t2:decide (32≤i)=true:=by simp;omega
  rw[if_pos (Or.inr b)]
  clear he a b
  go_enter Tryz.func50,Tryz.ntmps50
  go_wp2
  go_ret2
  exact ⟨rfl,rfl⟩
 have t1:decide (i<0)=false:=by simpa using a
 have t2:decide (32≤i)=false:=by simp;omega
 rw[if_neg (by omega)] at he ⊢
 clear a b
 by_cases c:t<0
 ·have t3:decide (t<0)=true:=by simpa using c
  rw[if_pos (Or.inl c)]
  clear he c
  go_enter Tryz.func50,Tryz.ntmps50
  go_wp2
  go_ret2
  exact ⟨rfl,rfl⟩
 by_cases d:(nf:Int)≤t
 ·have t3:decide (t<0)=false:=by simpa using c
  have t4:decide ((nf:Int)≤t)=true:=by simpa using d
  rw[if_pos (Or.inr d)]
  clear he c d
  go_enter Tryz.func50,Tryz.ntmps50
  go_wp2_with (go_at_call 101;refine(jg _ _ _ _ _ h).mono ?_;rintro e w' ⟨rfl,rfl⟩)
  go_ret2
  exact ⟨rfl,rfl⟩
 ·rw[if_neg (by omega)] at he;omega
theorem load_half (w:World) (p bf nf:Nat) (bs:List UInt8) (t i:Nat) (h:IsRam w p bf nf bs) (ht:t<nf) (hi:i<32) :
  Calls pQ 106 #[π (some ⟨p,0,none⟩),U κ ((t:Int)*64+(i:Int)*2),U κ 2] w fun e w'=>e=ρ (τ #[U μ ((cc bs t i:Nat):Int),U κ 0])∧w'=w:=by
 have hm:=h.most
 have e0:=qx t i nf ht hi
 have:=load_any w p bf nf bs ((t*64+i*2:Nat):Int) 2 h (by omega)
 rw[j5,if_pos e0,e0,Int.toNat_natCast,show(2:Int).toNat=2 from rfl] at this
 rw[show(t:Int)*64+(i:Int)*2=((t*64+i*2:Nat):Int) by omega]
 exact this
theorem store_half (w:World) (p bf nf:Nat) (bs:List UInt8) (t i v:Nat) (h:IsRam w p bf nf bs) (ht:t<nf) (hi:i<32) (hv:v<65536) :
  Calls pQ 23 #[π (some ⟨p,0,none⟩),U κ ((t:Int)*64+(i:Int)*2),U κ 2,U μ (v:Int)] w fun e w'=>e=ρ (U κ 0)∧Fr (at' bf) w w'∧IsRam w' p bf nf (nh bs (t*64+i*2) (l4 2 v)):=by
 have hm:=h.most
 have e0:=qx t i nf ht hi
 have:=ws w p bf nf bs ((t*64+i*2:Nat):Int) 2 v h (by omega) (by omega)
 rw[kj,if_pos e0,e0,Int.toNat_natCast,show(2:Int).toNat=2 from rfl] at this
 rw[show(t:Int)*64+(i:Int)*2=((t*64+i*2:Nat):Int) by omega]
 exact this
theorem vp (w:World) (p bf nf:Nat) (bs:List UInt8) (t i:Nat) (h:IsRam w p bf nf bs) (ht:t<nf) (hi:i<32) :
  Calls pQ 185 #[π (some ⟨p,0,none⟩),U κ (t:Int),U κ (i:Int)] w fun e w' =>
   e=ρ (τ #[.agg #[β (dv (cc bs t i)),β (dl (cc bs t i)),U κ (dr (cc bs t i)),U κ (df (cc bs t i))],U κ (de (cc bs t i))])∧Fr bg w w':=by
 have f0:=(Fr.refl bg w).alloc (ω (jh false false 0 0) 77)
 have r0:=ba w (jh false false 0 0) 77
 have h0:=h.keep f0 (fun h=>h) (fun h=>h)
 have hl:=half_lt bs t i
 unfold jh at f0 h0
 go_enter Tryz.func185,Tryz.ntmps185
 go_wp2_with fail
 refine(xk _ _ _ _ _ _ _ h0 ht hi).mono ?_
 rintro e w1 ⟨rfl,rfl⟩
 go_wp2_with fail
 refine(load_half _ _ _ _ _ _ _ h0 ht hi).mono ?_
 rintro e w1 ⟨rfl,rfl⟩
 go_wp2_with fail
 refine(dec_any _ _ hl).mono ?_
 rintro e w2 ⟨rfl,f2⟩
 have r2:=r0.keep f2 (fun h=>h)
 replace f2:=f0.trans f2
 clear r0 f0 h0
 obtain ⟨c0,c1,c2,c3⟩:=du r2
 obtain ⟨k0,k1,k2,k3⟩:=dy r2
 go_wp2_with fail
 refine bodyPost_ret (cw rfl rfl (jl r2) rfl) rfl ?_
 exact ⟨rfl,kg f2 (Or.inl (Nat.le_refl _))⟩
def putE (t i:Int) (nf:Nat) (v l:Bool) (r f:Int):Int:=if kn t i nf=0 then encE v l r f else kn t i nf
def putB (bs:List UInt8) (t i:Int) (nf:Nat) (v l:Bool) (r f:Int):List UInt8:=
 if kn t i nf=0∧cj v l r f=true then nh bs (t.toNat*64+i.toNat*2) (l4 2 (ky v l r f).toNat) else bs
theorem put_bad (w:World) (p bf nf:Nat) (bs:List UInt8) (t i:Int) (v l:Bool) (r f:Int) (h:IsRam w p bf nf bs) (he:kn t i nf≠0) :
  Calls pQ 21 #[π (some ⟨p,0,none⟩),U κ t,U κ i,.agg #[β v,β l,U κ r,U κ f]] w fun e w'=>e=ρ (U κ (kn t i nf))∧Fr bg w w':=by
 have f0:=(Fr.refl bg w).alloc (ω (jh v l r f) 77)
 have h0:=h.keep f0 (fun h=>h) (fun h=>h)
 have hb:(kn t i nf != 0)=true:=by simpa using he
 have HE:Hid (kn t i nf≠0):=he
 clear he
 unfold jh at f0 h0
 go_enter Tryz.func21,Tryz.ntmps21
 go_wp2_with fail
 refine(pplace_bad _ _ _ _ _ _ _ h0 HE).mono ?_
 rintro e w1 ⟨rfl,rfl⟩
 go_wp2_with fail
 go_ret
 exact ⟨rfl,f0⟩
theorem put_wrong (w:World) (p bf nf:Nat) (bs:List UInt8) (t i:Nat) (v l:Bool) (r f:Int) (h:IsRam w p bf nf bs) (ht:t<nf) (hi:i<32) (hr:cj v l r f=false) :
  Calls pQ 21 #[π (some ⟨p,0,none⟩),U κ (t:Int),U κ (i:Int),.agg #[β v,β l,U κ r,U κ f]] w fun e w'=>e=ρ (U κ 20)∧Fr bg w w':=by
 have f0:=(Fr.refl bg w).alloc (ω (jh v l r f) 77)
 have h0:=h.keep f0 (fun h=>h) (fun h=>h)
 unfold jh at f0 h0
 go_enter Tryz.func21,Tryz.ntmps21
 go_wp2_with fail
 refine(xk _ _ _ _ _ _ _ h0 ht hi).mono ?_
 rintro e w1 ⟨rfl,rfl⟩
 go_wp2_with fail
 refine(enc_bad _ _ _ _ _ hr).mono ?_
 rintro e w2 ⟨rfl,f2⟩
 replace f2:=f0.trans f2
 clear f0 h0
 go_wp2_with fail
 go_ret
 exact ⟨rfl,f2⟩
theorem put_ok (w:World) (p bf nf:Nat) (bs:List UInt8) (t i x:Nat) (v l:Bool) (r f:Int) (h:IsRam w p bf nf bs) (ht:t<nf) (hi:i<32) (hr:cj v l r f=true) (hx:ky v l r f=(x:Int)) (hx':x<65536) :
  Calls pQ 21 #[π (some ⟨p,0,none⟩),U κ (t:Int),U κ (i:Int),.agg #[β v,β l,U κ r,U κ f]] w fun e w'=>e=ρ (U κ 0)∧Fr (at' bf) w w'∧IsRam w' p bf nf (nh bs (t*64+i*2) (l4 2 x)):=by
 have f0:=(Fr.refl bg w).alloc (ω (jh v l r f) 77)
 have h0:=h.keep f0 (fun h=>h) (fun h=>h)
 have HX:Hid (ky v l r f=(x:Int)):=hx
 clear hx
 unfold jh at f0 h0
 go_enter Tryz.func21,Tryz.ntmps21
 go_wp2_with fail
 refine(xk _ _ _ _ _ _ _ h0 ht hi).mono ?_
 rintro e w1 ⟨rfl,rfl⟩
 go_wp2_with fail
 refine(enc_ok _ _ _ _ _ hr).mono ?_
 rintro e w2 ⟨rfl,f2⟩
 rw[HX.out]
 have h2:=h0.keep f2 (fun h=>h) (fun h=>h)
 replace f2:=f0.trans f2
 clear f0 h0
 go_wp2_with fail
 refine(store_half _ _ _ _ _ _ _ _ h2 ht hi hx').mono ?_
 rintro e w3 ⟨rfl,f3,h3⟩
 replace f3:=(f2.mono (T:=at' bf) fun _ _ e=>e.elim).trans f3
 clear f2 h2
 go_wp2_with fail
 go_ret
 exact ⟨rfl,f3,h3⟩
theorem put_any (w:World) (p bf nf:Nat) (bs:List UInt8) (t i:Int) (v l:Bool) (r f:Int) (h:IsRam w p bf nf bs) :
  Calls pQ 21 #[π (some ⟨p,0,none⟩),U κ t,U κ i,.agg #[β v,β l,U κ r,U κ f]] w fun e w' =>
   e=ρ (U κ (putE t i nf v l r f))∧Fr (at' bf) w w'∧IsRam w' p bf nf (putB bs t i nf v l r f):=by
 unfold putE putB
 by_cases he:kn t i nf=0
 ·rw[if_pos he]
  obtain ⟨t,i,rfl,rfl,ht,hi⟩:=xm he
  by_cases hr:cj v l r f=true
  ·rw[if_pos ⟨he,hr⟩,encE,if_pos hr,Int.toNat_natCast,Int.toNat_natCast]
   have hb:=wl hr
   exact put_ok w p bf nf bs t i (ky v l r f).toNat v l r f h ht hi hr (by omega) (by omega)
  ·rw[if_neg (fun e=>hr e.2),encE,if_neg hr]
   refine(put_wrong w p bf nf bs t i v l r f h ht hi (by simpa using hr)).mono ?_
   rintro e w' ⟨rfl,f1⟩
   exact ⟨rfl,f1.mono fun _ _ e=>e.elim,h.keep f1 (fun h=>h) (fun h=>h)⟩
 ·rw[if_neg he,if_neg (fun e=>he e.1)]
  refine(put_bad w p bf nf bs t i v l r f h he).mono ?_
  rintro e w' ⟨rfl,f1⟩
  exact ⟨rfl,f1.mono fun _ _ e=>e.elim,h.keep f1 (fun h=>h) (fun h=>h)⟩
def Good (bs:List UInt8) (nf:Nat):Prop:=∀ t i,t<nf→i<32→md (cc bs t i)=true
theorem info5:(Tryz.prog.info? 5).map (fun i=>(i.zero,i.bytes,i.size))=some (some (.int .u8 0),1,1):=by kernel_rfl
theorem size5:(Tryz.prog.info? 5).map (·.size)=some 1:=by kernel_rfl
theorem made_zeros5 (n:Nat):madeCells #[.int .u8 0] (n*1)=cu (List.replicate n 0):=by
 apply Array.ext
 ·simp[size_madeCells,no]
 ·intro i h1 h2
  simp[madeCells,cu,U8,Nat.mod_one]
theorem make_bytes (n:Int) (h0:0≤n) (h2:n≤65536) (w:World):(Instr.makeSlice 123 (U κ n) (U κ n)).run pQ w =
  .ok (.slice (some ⟨w.heap.size,0,none⟩) n.toNat n.toNat) (w.alloc (ω (cu (List.replicate n.toNat 0)) 5)):=by
 have hi:=info5
 cases hq:Tryz.prog.info? 5 with
 | none=>simp[hq] at hi
 | some i =>
  rw[hq] at hi
  simp only[Option.map_some,Option.some.injEq,Prod.mk.injEq] at hi
  obtain ⟨hz,hb,hs⟩:=hi
  have:=run_make (P:=pQ) w 123 5 i _ Tryz.underlying123 hq hz .i64 .i64 n n h0 (by omega) (by rw[hb];omega) (by omega)
  rw[this,hs]
  simp only[Value.cells,made_zeros5]
def Src (w:World) (a0:Option Addr) (data:List UInt8):Prop:=
 0<data.length→∃ a,a0=some a∧∀ (j:Nat) (hj:j<data.length),w.cell? (a.add j)=some (U8 data[j])
theorem row_setCells (b:Nat) (t:TypeId) (l:List UInt8):∀ (w:World) (o:Nat) (bs:List UInt8),Row w b (cu bs) t→Row (w.setCells b o (l.map U8)) b (cu (nh bs o l)) t:=by
 induction l with
 | nil=>intro w o bs h;exact h
 | cons x r ih =>
  intro w o bs h
  rw[List.map_cons,World.setCells,nh]
  exact ih _ _ _ (by rw[←qf];exact h.setCell o _)
theorem fr_setCells (b:Nat) (l:List Value):∀ (w0 w:World) (o:Nat),Fr (at' b) w0 w→Fr (at' b) w0 (w.setCells b o l):=by
 induction l with
 | nil=>intro w0 w o h;exact h
 | cons x r ih=>intro w0 w o h;exact ih _ _ _ (cy _ _ _ _ h)
theorem one_U8 (x:UInt8):(U8 x).oneCell'=true:=by simp[U8,Value.oneCell']
theorem copy_bytes (w:World) (ty t:TypeId) (b o dLen dCap:Nat) (sp:Option Addr) (sLen sCap:Nat) (bs data:List UInt8) (hr:Row w b (cu bs) t) (hn:data.length=Nat.min sLen dLen) (hs:Src w sp data) (hfit:o+data.length≤bs.length) :
  ∃ w2,(Builtin.copy_ #[123,123] ty #[.slice (some ⟨b,o,none⟩) dLen dCap,.slice sp sLen sCap]).run pQ w=.ok (goInt data.length) w2∧Row w2 b (cu (nh bs o data)) t∧Fr (at' b) w w2:=by
 by_cases h0:data.length=0
 ·have e:=List.eq_nil_of_length_eq_zero h0
  subst e
  exact ⟨w,run_copy_none w 123 123 ty 5 _ _ _ _ _ _ Tryz.underlying123 size5 (by simpa using hn.symm),hr,Fr.refl _ _⟩
 ·obtain ⟨a,rfl,hc⟩:=hs (by omega)
  refine ⟨w.setCells b o (data.map U8),?_,row_setCells b t data w o bs hr,fr_setCells b _ w w o (Fr.refl _ _)⟩
  have:=run_copy_cells (P:=pQ) w 123 123 ty 5 b o dLen dCap a sLen sCap (data.map U8) Tryz.underlying123 size5 (by simpa using hn)
   (fun j v hv=>by
    rw[List.getElem?_map] at hv
    cases hq:data[j]? with
    | none=>simp[hq] at hv
    | some x =>
     obtain ⟨hj,hx⟩:=List.getElem?_eq_some_iff.1 hq
     simp[hq] at hv
     rw[hc j hj,hx,hv])
   (fun j hj=>by rw[hr.cell,mf bs _ (by simp at hj;omega)];rfl) (fun j _=>hr.frozen _)
   (fun v hv=>by obtain ⟨x,_,rfl⟩:=List.mem_map.1 hv;exact one_U8 x)
  simpa using this
def le (bs:List UInt8) (n:Nat):List UInt8:=(bs.drop (n*64)).take 64
theorem ko (bs:List UInt8) (n nf:Nat) (h:bs.length=64*nf) (hn:n<nf):(le bs n).length=64:=by
 simp[le];omega
theorem yi (bs:List UInt8) (n nf j:Nat) (h:bs.length=64*nf) (hn:n<nf) (hj:j<(le bs n).length):(le bs n)[j]=bs[n*64+j]'(by rw[ko bs n nf h hn] at hj;omega):=by
 simp[le]
theorem putAt_all (bs l:List UInt8) (h:l.length=bs.length):nh bs 0 l=l:=by
 apply List.ext_getElem?
 intro j
 rw[putAt_get? l bs 0 (by omega)]
 by_cases hj:j<l.length
 ·rw[if_pos (by omega)];rfl
 ·rw[if_neg (by omega),List.getElem?_eq_none (by omega),List.getElem?_eq_none (by omega)]
theorem src_frame {w:World} {p bf nf:Nat} {bs:List UInt8} (h:IsRam w p bf nf bs) (n:Nat) (hn:n<nf):Src w (some ⟨bf,n*64,none⟩) (le bs n):=by
 intro _
 refine ⟨_,rfl,fun j hj=>?_⟩
 have hl:=ko bs n nf h.len hn
 have hle:=h.len
 have hadd:(⟨bf,n*64,none⟩:Addr).add j=⟨bf,n*64+j,none⟩:=by unfold Addr.add;split <;> simp_all
 rw[hadd,h.row.cell,mf bs _ (by omega),yi bs n nf j h.len hn]
theorem frame_ok (w:World) (p bf nf:Nat) (bs:List UInt8) (n:Nat) (h:IsRam w p bf nf bs) (hn:n<nf) :
  Calls pQ 42 #[π (some ⟨p,0,none⟩),U κ (n:Int)] w fun e w'=>e=ρ (τ #[.slice (some ⟨w.heap.size,0,none⟩) 64 64,U κ 0]) ∧
   Fr bg w w'∧Row w' w.heap.size (cu (le bs n)) 5:=by
 have hd:decide ((n:Int)<nf)=true:=by simp;omega
 have hlt:(n:Int)<(nf:Int):=by omega
 have hmk:=make_bytes 64 (by omega) (by omega)
 rw[show(64:Int).toNat=64 from rfl] at hmk
 have hr:=ba w (cu (List.replicate 64 0)) 5
 have hl:=ko bs n nf h.len hn
 have h':IsRam (w.alloc (ω (cu (List.replicate 64 0)) 5)) p bf nf bs:=h.keep ((Fr.refl bg w).alloc _) (fun h=>h) (fun h=>h)
 obtain ⟨w2,hcp,hr2,hf2⟩:=copy_bytes _ 3 5 w.heap.size 0 64 64 (some ⟨bf,n*64,none⟩) 64 64 _ (le bs n) hr (by rw[hl];rfl) (src_frame h' n hn) (by rw[hl];simp)
 rw[putAt_all _ _ (by rw[hl];simp)] at hr2
 have HR:Hid (Fr bg w w2∧Row w2 w.heap.size (cu (le bs n)) 5):=⟨((Fr.refl _ _).alloc _).new hf2,hr2⟩
 have hc:=h.hcell
 have hc2:=h'.hcell
 clear hr h' hr2 hf2 h
 generalize cu (List.replicate 64 0)=zs at *
 generalize hq:(le bs n).length=q at *
 go_enter Tryz.func42,Tryz.ntmps42
 go_wp2_with (go_at_call 94;refine(sm _ _ _ _ _ hc (by omega)).mono ?_;rintro e w' ⟨rfl,rfl⟩)
 go_ret2
 exact ⟨rfl,HR⟩
end Go.Proofs.YtibhbjbpodlpiaaGreat
