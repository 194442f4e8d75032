/-
  Contracts over the translation. No statement is proved here.
-/
import Derived.Laws.BitsAllLaws
import Derived.Test.YtibhbjbpodlpiaaGreatQWalkDesc
set_option maxRecDepth 100000
set_option maxHeartbeats 8000000
namespace Go.Proofs.YtibhbjbpodlpiaaGreat
open Go.RowKit
open Go.Value renaming int → U, bool → β, pointer → π, tuple → τ
open Go.IntKind renaming i64 → κ, u32 → μ
open Go.Obj renaming cells → ω
open Go.Ending renaming returned → ρ
open Go.Proofs.Tryz renaming prog → pQ
def bitsOf (n:Int):Nat:=(BitVec.ofInt 64 n).toNat
theorem and_nat (a:Nat) (ha:a<8) (n:Int):bits .and .i64 (a:Int) n=((a &&& bitsOf n:Nat):Int):=by
 have hx:a &&& bitsOf n≤a:=Nat.and_le_left
 show IntKind.i64.wrap ((BitVec.ofInt 64 (a:Int) &&& BitVec.ofInt 64 n).toNat:Int)=_
 rw[BitVec.toNat_and,BitVec.ofInt_natCast,BitVec.toNat_ofNat,Nat.mod_eq_of_lt (show a<2 ^ 64 by omega)]
 show IntKind.i64.wrap ((a &&& bitsOf n:Nat):Int)=_
 simp only[IntKind.wrap,IntKind.bits,IntKind.signed]
 generalize (a &&& bitsOf n)=k at hx ⊢
 simp
 omega
theorem and_range (r n:Int) (h0:0≤r) (h7:r≤7):0≤bits .and .i64 r n∧bits .and .i64 r n≤r:=by
 obtain ⟨a,rfl⟩:=Int.eq_ofNat_of_zero_le h0
 rw[and_nat a (by omega)]
 have hx:a &&& bitsOf n≤a:=Nat.and_le_left
 omega
theorem dr_range (x:Int):0≤dr x∧dr x≤7:=by
 unfold dr
 split
 ·unfold pr;omega
 ·omega
theorem df_range {x:Int} (h0:0≤x) (h1:x<65536):0≤df x∧df x≤1023:=by
 unfold df
 split
 ·unfold pf;omega
 ·omega
theorem ew_range (bs:List UInt8) (t page lvl:Int):0≤ew bs t page lvl∧ew bs t page lvl<65536:=by
 have:=half_lt bs t.toNat (np page lvl).toNat
 unfold ew
 omega
theorem pq (bs:List UInt8) (nf:Nat) (root page:Int):(isP page=false∧cv bs nf root page=rv 3 0 0 false 0)∨(isP page=true∧jq bs nf root page 0≠0∧cv bs nf root page=rv (jq bs nf root page 0) 2 0 false page) ∨
  (isP page=true∧jq bs nf root page 0=0∧jq bs nf (df (ew bs root page 0)) page 1≠0∧cv bs nf root page=rv (jq bs nf (df (ew bs root page 0)) page 1) 2 1 false page) ∨
  (isP page=true∧jq bs nf root page 0=0∧jq bs nf (df (ew bs root page 0)) page 1=0∧cv bs nf root page=⟨df (ew bs (df (ew bs root page 0)) page 1),dr (ew bs (df (ew bs root page 0)) page 1),f0⟩):=by
 unfold cv
 cases hp:isP page with
 | false=>exact Or.inl ⟨rfl,by simp⟩
 | true =>
  right
  by_cases h1:jq bs nf root page 0=0
  ·right
   by_cases h2:jq bs nf (df (ew bs root page 0)) page 1=0
   ·right
    exact ⟨rfl,h1,h2,by simp[h1,h2]⟩
   ·left
    exact ⟨rfl,h1,h2,by simp[h1,h2]⟩
  ·left
   exact ⟨rfl,h1,by simp[h1]⟩
theorem single_range (bs:List UInt8) (nf:Nat) (root page:Int):(0≤(cv bs nf root page).fr∧(cv bs nf root page).fr≤1023)∧(0≤(cv bs nf root page).ri∧(cv bs nf root page).ri≤7)∧((cv bs nf root page).ft.k=0→(cv bs nf root page).ft=f0∧isP page=true):=by
 rcases pq bs nf root page with ⟨hp,e⟩ | ⟨hp,h1,e⟩ | ⟨hp,h1,h2,e⟩ | ⟨hp,h1,h2,e⟩
 ·rw[e];exact ⟨⟨Int.le_refl 0,by decide⟩,⟨Int.le_refl 0,by decide⟩,fun h=>absurd h (by decide)⟩
 ·rw[e];exact ⟨⟨Int.le_refl 0,(by decide:(0:Int)≤1023)⟩,⟨Int.le_refl 0,(by decide:(0:Int)≤7)⟩,fun h=>absurd h h1⟩
 ·rw[e];exact ⟨⟨Int.le_refl 0,(by decide:(0:Int)≤1023)⟩,⟨Int.le_refl 0,(by decide:(0:Int)≤7)⟩,fun h=>absurd h h2⟩
 ·rw[e]
  have a:=ew_range bs (df (ew bs root page 0)) page 1
  exact ⟨df_range a.1 a.2,dr_range _,fun _=>⟨rfl,hp⟩⟩
theorem nz (bs:List UInt8) (nf:Nat) (root page want:Int):((cv bs nf root page).ft.k≠0∧ce bs nf root page want=cv bs nf root page) ∨
  ((cv bs nf root page).ft.k=0∧bits .and .i64 (cv bs nf root page).ri want=0∧ce bs nf root page want=rv 2 2 1 false page) ∨
  ((cv bs nf root page).ft.k=0∧bits .and .i64 (cv bs nf root page).ri want≠0∧ce bs nf root page want=cv bs nf root page):=by
 unfold ce
 by_cases h1:(cv bs nf root page).ft.k=0
 ·right
  by_cases h2:bits .and .i64 (cv bs nf root page).ri want=0
  ·left;exact ⟨h1,h2,by rw[if_neg (by simpa using h1),if_pos h2]⟩
  ·right;exact ⟨h1,h2,by rw[if_neg (by simpa using h1),if_neg h2]⟩
 ·left;exact ⟨h1,by rw[if_pos h1]⟩
theorem granted_ok {bs:List UInt8} {nf:Nat} {root page want:Int} (h:(ce bs nf root page want).ft.k=0):ce bs nf root page want=cv bs nf root page∧(cv bs nf root page).ft.k=0∧bits .and .i64 (cv bs nf root page).ri want≠0:=by
 rcases nz bs nf root page want with ⟨h1,e⟩ | ⟨h1,h2,e⟩ | ⟨h1,h2,e⟩
 ·rw[e] at h;exact absurd h h1
 ·rw[e] at h;exact absurd (show(2:Int)=0 from h) (by decide)
 ·exact ⟨e,h1,h2⟩
theorem granted_f0 {bs:List UInt8} {nf:Nat} {root page want:Int} (h:(ce bs nf root page want).ft.k=0):(ce bs nf root page want).ft=f0:=by
 obtain ⟨e,h1,_⟩:=granted_ok h
 rw[e]
 exact((single_range bs nf root page).2.2 h1).1
theorem nj (bs:List UInt8) (nf:Nat) (second table:Int):((ce bs nf second table 1).ft.k≠0∧rj bs nf second table=⟨0,0,⟨(ce bs nf second table 1).ft.k,(ce bs nf second table 1).ft.s,(ce bs nf second table 1).ft.l,true,(ce bs nf second table 1).ft.p⟩⟩) ∨
  ((ce bs nf second table 1).ft.k=0∧rj bs nf second table=ce bs nf second table 1):=by
 unfold rj
 by_cases h1:(ce bs nf second table 1).ft.k=0
 ·right;exact ⟨h1,by rw[if_neg (by simpa using h1)]⟩
 ·left;exact ⟨h1,by rw[if_pos h1]⟩
theorem js (bs:List UInt8) (nf:Nat) (second table page lvl:Int):((rj bs nf second table).ft.k≠0∧ci bs nf second table page lvl=rj bs nf second table) ∨
  ((rj bs nf second table).ft.k=0∧jq bs nf (rj bs nf second table).fr page lvl≠0∧ci bs nf second table page lvl=rv (jq bs nf (rj bs nf second table).fr page lvl) 1 lvl false page) ∨
  ((rj bs nf second table).ft.k=0∧jq bs nf (rj bs nf second table).fr page lvl=0∧ci bs nf second table page lvl=⟨df (ew bs (rj bs nf second table).fr page lvl),dr (ew bs (rj bs nf second table).fr page lvl),f0⟩):=by
 unfold ci
 by_cases h1:(rj bs nf second table).ft.k=0
 ·right
  by_cases h2:jq bs nf (rj bs nf second table).fr page lvl=0
  ·right;exact ⟨h1,h2,by rw[if_neg (by simpa using h1),if_neg (by simpa using h2)]⟩
  ·left;exact ⟨h1,h2,by rw[if_neg (by simpa using h1),if_pos h2]⟩
 ·left;exact ⟨h1,by rw[if_pos h1]⟩
theorem lies_zero (bs:List UInt8) (nf:Nat) (second table:Int) (h:(rj bs nf second table).ft.k≠0):(rj bs nf second table).fr=0∧(rj bs nf second table).ri=0:=by
 rcases nj bs nf second table with ⟨_,e⟩ | ⟨h1,e⟩
 ·rw[e];exact ⟨rfl,rfl⟩
 ·rw[e] at h;exact absurd h1 h
theorem jf (bs:List UInt8) (nf:Nat) (second table page lvl:Int) (h:(ci bs nf second table page lvl).ft.k≠0):(ci bs nf second table page lvl).fr=0∧(ci bs nf second table page lvl).ri=0:=by
 rcases js bs nf second table page lvl with ⟨h1,e⟩ | ⟨_,h2,e⟩ | ⟨_,_,e⟩
 ·rw[e];exact lies_zero bs nf second table h1
 ·rw[e];exact ⟨rfl,rfl⟩
 ·rw[e] at h;exact absurd rfl h
theorem guest_range {bs:List UInt8} {nf:Nat} {second table page lvl:Int} (h:(ci bs nf second table page lvl).ft.k=0):(0≤(ci bs nf second table page lvl).fr∧(ci bs nf second table page lvl).fr≤1023)∧(0≤(ci bs nf second table page lvl).ri∧(ci bs nf second table page lvl).ri≤7):=by
 rcases js bs nf second table page lvl with ⟨h1,e⟩ | ⟨_,h2,e⟩ | ⟨_,_,e⟩
 ·rw[e] at h;exact absurd h h1
 ·rw[e] at h;exact absurd h h2
 ·rw[e]
  have a:=ew_range bs (rj bs nf second table).fr page lvl
  exact ⟨df_range a.1 a.2,dr_range _⟩
theorem si (b:Nat) (w:World):Lies 184 #[] (fun t=>⟨t,0,f0⟩) b w:=
 ⟨enters_of Tryz.func184 (by kernel_rfl) rfl,fun w1 t _=>itself_any t w1⟩
theorem single_out (w:World) (p:Nat) (root page:Int) (hp:isP page=false) :
  Calls pQ 181 #[π (some ⟨p,0,none⟩),U κ root,U κ page] w fun e w'=>e=ρ (τ #[U κ 0,U κ 0,.agg #[U κ 3,U κ 0,U κ 0,β false,U κ 0]])∧Fr bg w w':=by
 have f1:=Fr.refl bg w
 have r8:=ba w #[U κ 0,U κ 0,U κ 0,β false,U κ 0] 50
 replace f1:=f1.alloc (ω #[U κ 0,U κ 0,U κ 0,β false,U κ 0] 50)
 go_enter Tryz.func181,Tryz.ntmps181
 go_wp2_with fail
 refine(jo _ _).mono ?_
 rintro e v1 ⟨rfl,rfl⟩
 rw[hp]
 go_wp2_with fail
 refine(sh _).mono ?_
 rintro e v2 ⟨rfl,g2⟩
 replace r8:=r8.keep g2 (fun h=>h)
 replace f1:=f1.trans g2
 clear g2
 obtain ⟨c0x0,c0x1,c0x2,c0x3,c0x4⟩:=bl r8
 obtain ⟨z1x0,z1x1,z1x2,z1x3,z1x4⟩:=bz r8
 go_wp2_with fail
 refine bodyPost_ret (gk rfl rfl (r8.put5 _ _ _ _ _) rfl) rfl ?_
 exact ⟨rfl,f1.put5 (Or.inl (Nat.le_refl _)) _ _ _ _ _⟩
theorem single_bad0 (w:World) (p bf nf:Nat) (bs:List UInt8) (root page:Int) (h:IsRam w p bf nf bs) (hp:isP page=true) (hk:jq bs nf root page 0≠0) :
  Calls pQ 181 #[π (some ⟨p,0,none⟩),U κ root,U κ page] w fun e w'=>e=ρ (τ #[U κ 0,U κ 0,.agg #[U κ (jq bs nf root page 0),U κ 2,U κ 0,β false,U κ page]])∧Fr bg w w':=by
 have f1:=Fr.refl bg w
 have hp0:=h.head.lt
 have hb0:=h.row.lt
 have r8:=ba w #[U κ 0,U κ 0,U κ 0,β false,U κ 0] 50
 replace h:=h.alloc (ω #[U κ 0,U κ 0,U κ 0,β false,U κ 0] 50)
 replace f1:=f1.alloc (ω #[U κ 0,U κ 0,U κ 0,β false,U κ 0] 50)
 have r9:=bq w (ω #[U κ 0,U κ 0,U κ 0,β false,U κ 0] 50) #[π (some ⟨p,0,none⟩),U κ 2,U κ 0,U κ page] 232
 replace r8:=r8.alloc (ω #[π (some ⟨p,0,none⟩),U κ 2,U κ 0,U κ page] 232)
 replace h:=h.alloc (ω #[π (some ⟨p,0,none⟩),U κ 2,U κ 0,U κ page] 232)
 replace f1:=f1.alloc (ω #[π (some ⟨p,0,none⟩),U κ 2,U κ 0,U κ page] 232)
 have hd:=desc_a2 _ (w.heap.size+1) p bf nf bs root 2 0 page 184 #[] (fun t=>⟨t,0,f0⟩) h r9 (by omega) (by omega) (si _ _) ⟨root,0,f0⟩ rfl hp rfl hk
 go_enter Tryz.func181,Tryz.ntmps181
 go_wp2_with fail
 refine(jo _ _).mono ?_
 rintro e v1 ⟨rfl,rfl⟩
 rw[hp]
 go_wp2_with fail
 refine hd.mono ?_
 rintro e v1 ⟨rfl,g1,_⟩
 clear hd
 replace r8:=r8.keep g1 (show _≠_ by omega)
 replace f1:=f1.newerS g1 (by omega)
 have l1:Hid (w.heap.size<v1.heap.size):=r8.lt
 clear g1 r9 h
 have r10:=ba v1 #[β false,β false,U κ 0,U κ 0] 77
 replace r8:=r8.alloc (ω #[β false,β false,U κ 0,U κ 0] 77)
 replace f1:=f1.alloc (ω #[β false,β false,U κ 0,U κ 0] 77)
 obtain ⟨c0x0,c0x1,c0x2,c0x3,c0x4⟩:=bl r8
 obtain ⟨z1x0,z1x1,z1x2,z1x3,z1x4⟩:=bz r8
 go_wp2_with fail
 clear c0x0 c0x1 c0x2 c0x3 c0x4 z1x0 z1x1 z1x2 z1x3 z1x4
 have l2:=l1.out
 replace r10:=r10.past5 (b':=w.heap.size) (by omega) (U κ (jq bs nf root page 0)) (U κ 2) (U κ 0) (β false) (U κ page)
 replace r8:=r8.put5 (U κ (jq bs nf root page 0)) (U κ 2) (U κ 0) (β false) (U κ page)
 replace f1:=f1.put5 (b:=w.heap.size) (Or.inl (by omega)) (U κ (jq bs nf root page 0)) (U κ 2) (U κ 0) (β false) (U κ page)
 unfold put5 at r8 r10 f1
 clear l1 l2
 generalize hWW1:((((((v1.alloc (ω #[β false,β false,U κ 0,U κ 0] 77)).setCell ⟨w.heap.size,0,none⟩ (U κ (jq bs nf root page 0))).setCell ⟨w.heap.size,1,none⟩ (U κ 2)).setCell ⟨w.heap.size,2,none⟩ (U κ 0)).setCell ⟨w.heap.size,3,none⟩ (β false)).setCell ⟨w.heap.size,4,none⟩ (U κ page))=W1 at r8 r10 f1 ⊢
 clear hWW1
 obtain ⟨c2x0,c2x1,c2x2,c2x3,c2x4⟩:=bl r8
 obtain ⟨z3x0,z3x1,z3x2,z3x3,z3x4⟩:=bz r8
 obtain ⟨c4x0,c4x1,c4x2,c4x3⟩:=cl r10
 go_region
 go_wp2_with fail
 refine bodyPost_ret (gk rfl rfl (r8.put5 _ _ _ _ _).drew rfl) rfl ?_
 exact ⟨rfl,(f1.put5 (Or.inl (Nat.le_refl _)) _ _ _ _ _).drew⟩
theorem single_bad1 (w:World) (p bf nf:Nat) (bs:List UInt8) (root page:Int) (h:IsRam w p bf nf bs) (hp:isP page=true) (hk:jq bs nf root page 0=0) (hj:jq bs nf (df (ew bs root page 0)) page 1≠0) :
  Calls pQ 181 #[π (some ⟨p,0,none⟩),U κ root,U κ page] w fun e w'=>e=ρ (τ #[U κ 0,U κ 0,.agg #[U κ (jq bs nf (df (ew bs root page 0)) page 1),U κ 2,U κ 1,β false,U κ page]])∧Fr bg w w':=by
 have f1:=Fr.refl bg w
 have hp0:=h.head.lt
 have hb0:=h.row.lt
 have r8:=ba w #[U κ 0,U κ 0,U κ 0,β false,U κ 0] 50
 replace h:=h.alloc (ω #[U κ 0,U κ 0,U κ 0,β false,U κ 0] 50)
 replace f1:=f1.alloc (ω #[U κ 0,U κ 0,U κ 0,β false,U κ 0] 50)
 have r9:=bq w (ω #[U κ 0,U κ 0,U κ 0,β false,U κ 0] 50) #[π (some ⟨p,0,none⟩),U κ 2,U κ 0,U κ page] 232
 replace r8:=r8.alloc (ω #[π (some ⟨p,0,none⟩),U κ 2,U κ 0,U κ page] 232)
 replace h:=h.alloc (ω #[π (some ⟨p,0,none⟩),U κ 2,U κ 0,U κ page] 232)
 replace f1:=f1.alloc (ω #[π (some ⟨p,0,none⟩),U κ 2,U κ 0,U κ page] 232)
 have hd:=desc_b2 _ (w.heap.size+1) p bf nf bs root 2 0 page 184 #[] (fun t=>⟨t,0,f0⟩) h r9 (by omega) (by omega) (si _ _) ⟨root,0,f0⟩ rfl hp rfl hk ⟨(df (ew bs root page 0)),0,f0⟩ rfl rfl hj
 go_enter Tryz.func181,Tryz.ntmps181
 go_wp2_with fail
 refine(jo _ _).mono ?_
 rintro e v1 ⟨rfl,rfl⟩
 rw[hp]
 go_wp2_with fail
 refine hd.mono ?_
 rintro e v1 ⟨rfl,g1,_⟩
 clear hd
 replace r8:=r8.keep g1 (show _≠_ by omega)
 replace f1:=f1.newerS g1 (by omega)
 have l1:Hid (w.heap.size<v1.heap.size):=r8.lt
 clear g1 r9 h
 have r10:=ba v1 #[β false,β false,U κ 0,U κ 0] 77
 replace r8:=r8.alloc (ω #[β false,β false,U κ 0,U κ 0] 77)
 replace f1:=f1.alloc (ω #[β false,β false,U κ 0,U κ 0] 77)
 obtain ⟨c0x0,c0x1,c0x2,c0x3,c0x4⟩:=bl r8
 obtain ⟨z1x0,z1x1,z1x2,z1x3,z1x4⟩:=bz r8
 go_wp2_with fail
 clear c0x0 c0x1 c0x2 c0x3 c0x4 z1x0 z1x1 z1x2 z1x3 z1x4
 have l2:=l1.out
 replace r10:=r10.past5 (b':=w.heap.size) (by omega) (U κ (jq bs nf (df (ew bs root page 0)) page 1)) (U κ 2) (U κ 1) (β false) (U κ page)
 replace r8:=r8.put5 (U κ (jq bs nf (df (ew bs root page 0)) page 1)) (U κ 2) (U κ 1) (β false) (U κ page)
 replace f1:=f1.put5 (b:=w.heap.size) (Or.inl (by omega)) (U κ (jq bs nf (df (ew bs root page 0)) page 1)) (U κ 2) (U κ 1) (β false) (U κ page)
 unfold put5 at r8 r10 f1
 clear l1 l2
 generalize hWW1:((((((v1.alloc (ω #[β false,β false,U κ 0,U κ 0] 77)).setCell ⟨w.heap.size,0,none⟩ (U κ (jq bs nf (df (ew bs root page 0)) page 1))).setCell ⟨w.heap.size,1,none⟩ (U κ 2)).setCell ⟨w.heap.size,2,none⟩ (U κ 1)).setCell ⟨w.heap.size,3,none⟩ (β false)).setCell ⟨w.heap.size,4,none⟩ (U κ page))=W1 at r8 r10 f1 ⊢
 clear hWW1
 obtain ⟨c2x0,c2x1,c2x2,c2x3,c2x4⟩:=bl r8
 obtain ⟨z3x0,z3x1,z3x2,z3x3,z3x4⟩:=bz r8
 obtain ⟨c4x0,c4x1,c4x2,c4x3⟩:=cl r10
 go_region
 go_wp2_with fail
 refine bodyPost_ret (gk rfl rfl (r8.put5 _ _ _ _ _).drew rfl) rfl ?_
 exact ⟨rfl,(f1.put5 (Or.inl (Nat.le_refl _)) _ _ _ _ _).drew⟩
theorem single_ok (w:World) (p bf nf:Nat) (bs:List UInt8) (root page:Int) (h:IsRam w p bf nf bs) (hp:isP page=true) (hk:jq bs nf root page 0=0) (hj:jq bs nf (df (ew bs root page 0)) page 1=0) :
  Calls pQ 181 #[π (some ⟨p,0,none⟩),U κ root,U κ page] w fun e w'=>e=ρ (τ #[U κ (df (ew bs (df (ew bs root page 0)) page 1)),U κ (dr (ew bs (df (ew bs root page 0)) page 1)),.agg #[U κ 0,U κ 0,U κ 0,β false,U κ 0]])∧Fr bg w w':=by
 have f1:=Fr.refl bg w
 have hp0:=h.head.lt
 have hb0:=h.row.lt
 have r8:=ba w #[U κ 0,U κ 0,U κ 0,β false,U κ 0] 50
 replace h:=h.alloc (ω #[U κ 0,U κ 0,U κ 0,β false,U κ 0] 50)
 replace f1:=f1.alloc (ω #[U κ 0,U κ 0,U κ 0,β false,U κ 0] 50)
 have r9:=bq w (ω #[U κ 0,U κ 0,U κ 0,β false,U κ 0] 50) #[π (some ⟨p,0,none⟩),U κ 2,U κ 0,U κ page] 232
 replace r8:=r8.alloc (ω #[π (some ⟨p,0,none⟩),U κ 2,U κ 0,U κ page] 232)
 replace h:=h.alloc (ω #[π (some ⟨p,0,none⟩),U κ 2,U κ 0,U κ page] 232)
 replace f1:=f1.alloc (ω #[π (some ⟨p,0,none⟩),U κ 2,U κ 0,U κ page] 232)
 have hd:=desc_c _ (w.heap.size+1) p bf nf bs root 2 0 page 184 #[] (fun t=>⟨t,0,f0⟩) h r9 (by omega) (by omega) (si _ _) ⟨root,0,f0⟩ rfl hp rfl hk ⟨(df (ew bs root page 0)),0,f0⟩ rfl rfl hj
 go_enter Tryz.func181,Tryz.ntmps181
 go_wp2_with fail
 refine(jo _ _).mono ?_
 rintro e v1 ⟨rfl,rfl⟩
 rw[hp]
 go_wp2_with fail
 refine hd.mono ?_
 rintro e v1 ⟨rfl,g1,_⟩
 clear hd
 replace r8:=r8.keep g1 (show _≠_ by omega)
 replace f1:=f1.newerS g1 (by omega)
 have l1:Hid (w.heap.size<v1.heap.size):=r8.lt
 clear g1 r9 h
 have r10:=ba v1 #[β true,β true,U κ (dr (ew bs (df (ew bs root page 0)) page 1)),U κ (df (ew bs (df (ew bs root page 0)) page 1))] 77
 replace r8:=r8.alloc (ω #[β true,β true,U κ (dr (ew bs (df (ew bs root page 0)) page 1)),U κ (df (ew bs (df (ew bs root page 0)) page 1))] 77)
 replace f1:=f1.alloc (ω #[β true,β true,U κ (dr (ew bs (df (ew bs root page 0)) page 1)),U κ (df (ew bs (df (ew bs root page 0)) page 1))] 77)
 obtain ⟨c0x0,c0x1,c0x2,c0x3,c0x4⟩:=bl r8
 obtain ⟨z1x0,z1x1,z1x2,z1x3,z1x4⟩:=bz r8
 go_wp2_with fail
 clear c0x0 c0x1 c0x2 c0x3 c0x4 z1x0 z1x1 z1x2 z1x3 z1x4
 have l2:=l1.out
 replace r10:=r10.past5 (b':=w.heap.size) (by omega) (U κ 0) (U κ 0) (U κ 0) (β false) (U κ 0)
 replace r8:=r8.put5 (U κ 0) (U κ 0) (U κ 0) (β false) (U κ 0)
 replace f1:=f1.put5 (b:=w.heap.size) (Or.inl (by omega)) (U κ 0) (U κ 0) (U κ 0) (β false) (U κ 0)
 unfold put5 at r8 r10 f1
 clear l1 l2
 generalize hWW1:((((((v1.alloc (ω #[β true,β true,U κ (dr (ew bs (df (ew bs root page 0)) page 1)),U κ (df (ew bs (df (ew bs root page 0)) page 1))] 77)).setCell ⟨w.heap.size,0,none⟩ (U κ 0)).setCell ⟨w.heap.size,1,none⟩ (U κ 0)).setCell ⟨w.heap.size,2,none⟩ (U κ 0)).setCell ⟨w.heap.size,3,none⟩ (β false)).setCell ⟨w.heap.size,4,none⟩ (U κ 0))=W1 at r8 r10 f1 ⊢
 clear hWW1
 obtain ⟨c2x0,c2x1,c2x2,c2x3,c2x4⟩:=bl r8
 obtain ⟨z3x0,z3x1,z3x2,z3x3,z3x4⟩:=bz r8
 obtain ⟨c4x0,c4x1,c4x2,c4x3⟩:=cl r10
 go_region
 go_wp2_with fail
 refine bodyPost_ret (gk rfl rfl (r8.put5 _ _ _ _ _).drew rfl) rfl ?_
 exact ⟨rfl,(f1.put5 (Or.inl (Nat.le_refl _)) _ _ _ _ _).drew⟩
theorem tw (w:World) (p bf nf:Nat) (bs:List UInt8) (root page:Int) (h:IsRam w p bf nf bs) :
  Calls pQ 181 #[π (some ⟨p,0,none⟩),U κ root,U κ page] w fun e w'=>e=ρ (τ #[U κ (cv bs nf root page).fr,U κ (cv bs nf root page).ri,.agg #[U κ (cv bs nf root page).ft.k,U κ (cv bs nf root page).ft.s,U κ (cv bs nf root page).ft.l,β (cv bs nf root page).ft.wk,U κ (cv bs nf root page).ft.p]])∧Fr bg w w':=by
 rcases pq bs nf root page with ⟨hp,e⟩ | ⟨hp,h1,e⟩ | ⟨hp,h1,h2,e⟩ | ⟨hp,h1,h2,e⟩
 ·rw[e];exact single_out w p root page hp
 ·rw[e];exact single_bad0 w p bf nf bs root page h hp h1
 ·rw[e];exact single_bad1 w p bf nf bs root page h hp h1 h2
 ·rw[e];exact single_ok w p bf nf bs root page h hp h1 h2
theorem granted_bad (w:World) (p bf nf:Nat) (bs:List UInt8) (root page want:Int) (h:IsRam w p bf nf bs) (x:Res) (hx:cv bs nf root page=x) (hk:x.ft.k≠0) :
  Calls pQ 172 #[π (some ⟨p,0,none⟩),U κ root,U κ page,U κ want] w fun e w'=>e=ρ (τ #[U κ x.fr,U κ x.ri,.agg #[U κ x.ft.k,U κ x.ft.s,U κ x.ft.l,β x.ft.wk,U κ x.ft.p]])∧Fr bg w w':=by
 have f1:=Fr.refl bg w
 have t2:(x.ft.k == 0)=false:=by simp[hk]
 clear hk
 have hs:=fun w0 h0=>tw w0 p bf nf bs root page h0
 rw[hx] at hs
 clear hx
 have r10:=ba w #[U κ 0,U κ 0,U κ 0,β false,U κ 0] 50
 replace h:=h.alloc (ω #[U κ 0,U κ 0,U κ 0,β false,U κ 0] 50)
 replace f1:=f1.alloc (ω #[U κ 0,U κ 0,U κ 0,β false,U κ 0] 50)
 go_enter Tryz.func172,Tryz.ntmps172
 go_wp2_with fail
 refine(hs _ h).mono ?_
 rintro e v1 ⟨rfl,g1⟩
 replace r10:=r10.keep g1 (fun h=>h)
 replace h:=h.keep g1 (fun h=>h) (fun h=>h)
 replace f1:=f1.trans g1
 clear g1
 clear h
 obtain ⟨c0x0,c0x1,c0x2,c0x3,c0x4⟩:=bl r10
 obtain ⟨z1x0,z1x1,z1x2,z1x3,z1x4⟩:=bz r10
 have q10:=r10
 replace r10:=r10.put5 (U κ x.ft.k) (U κ x.ft.s) (U κ x.ft.l) (β x.ft.wk) (U κ x.ft.p)
 replace f1:=f1.put5 (b:=w.heap.size) (Or.inl (by omega)) (U κ x.ft.k) (U κ x.ft.s) (U κ x.ft.l) (β x.ft.wk) (U κ x.ft.p)
 unfold put5 at r10 f1
 obtain ⟨c2x0,c2x1,c2x2,c2x3,c2x4⟩:=bl r10
 go_wp2_with fail
 refine(dh x.ft _).mono ?_
 rintro e v2 ⟨rfl,g2⟩
 clear c0x0 c0x1 c0x2 c0x3 c0x4 z1x0 z1x1 z1x2 z1x3 z1x4 q10 c2x0 c2x1 c2x2 c2x3 c2x4
 rw[t2]
 replace r10:=r10.keep g2 (fun h=>h)
 replace f1:=f1.trans g2
 clear g2
 obtain ⟨c3x0,c3x1,c3x2,c3x3,c3x4⟩:=bl r10
 obtain ⟨z4x0,z4x1,z4x2,z4x3,z4x4⟩:=bz r10
 go_wp2_with fail
 go_region
 go_wp2_with fail
 refine bodyPost_ret (gk rfl rfl (r10.put5 _ _ _ _ _).drew rfl) rfl ?_
 exact ⟨rfl,(f1.put5 (Or.inl (Nat.le_refl _)) _ _ _ _ _).drew⟩
theorem granted_no (w:World) (p bf nf:Nat) (bs:List UInt8) (root page want:Int) (h:IsRam w p bf nf bs) (x:Res) (hx:cv bs nf root page=x) (hk:x.ft.k=0) (hb:bits .and .i64 x.ri want=0) :
  Calls pQ 172 #[π (some ⟨p,0,none⟩),U κ root,U κ page,U κ want] w fun e w'=>e=ρ (τ #[U κ 0,U κ 0,.agg #[U κ 2,U κ 2,U κ 1,β false,U κ page]])∧Fr bg w w':=by
 have f1:=Fr.refl bg w
 have t2:(x.ft.k == 0)=true:=by simp[hk]
 have t3:(bits .and .i64 x.ri want == 0)=true:=by simp[hb]
 clear hk hb
 have hs:=fun w0 h0=>tw w0 p bf nf bs root page h0
 rw[hx] at hs
 clear hx
 have r10:=ba w #[U κ 0,U κ 0,U κ 0,β false,U κ 0] 50
 replace h:=h.alloc (ω #[U κ 0,U κ 0,U κ 0,β false,U κ 0] 50)
 replace f1:=f1.alloc (ω #[U κ 0,U κ 0,U κ 0,β false,U κ 0] 50)
 go_enter Tryz.func172,Tryz.ntmps172
 go_wp2_with fail
 refine(hs _ h).mono ?_
 rintro e v1 ⟨rfl,g1⟩
 replace r10:=r10.keep g1 (fun h=>h)
 replace h:=h.keep g1 (fun h=>h) (fun h=>h)
 replace f1:=f1.trans g1
 clear g1
 clear h
 obtain ⟨c0x0,c0x1,c0x2,c0x3,c0x4⟩:=bl r10
 obtain ⟨z1x0,z1x1,z1x2,z1x3,z1x4⟩:=bz r10
 have q10:=r10
 replace r10:=r10.put5 (U κ x.ft.k) (U κ x.ft.s) (U κ x.ft.l) (β x.ft.wk) (U κ x.ft.p)
 replace f1:=f1.put5 (b:=w.heap.size) (Or.inl (by omega)) (U κ x.ft.k) (U κ x.ft.s) (U κ x.ft.l) (β x.ft.wk) (U κ x.ft.p)
 unfold put5 at r10 f1
 obtain ⟨c2x0,c2x1,c2x2,c2x3,c2x4⟩:=bl r10
 go_wp2_with fail
 refine(dh x.ft _).mono ?_
 rintro e v2 ⟨rfl,g2⟩
 clear c0x0 c0x1 c0x2 c0x3 c0x4 z1x0 z1x1 z1x2 z1x3 z1x4 q10 c2x0 c2x1 c2x2 c2x3 c2x4
 rw[t2]
 replace r10:=r10.keep g2 (fun h=>h)
 replace f1:=f1.trans g2
 clear g2
 obtain ⟨c3x0,c3x1,c3x2,c3x3,c3x4⟩:=bl r10
 obtain ⟨z4x0,z4x1,z4x2,z4x3,z4x4⟩:=bz r10
 go_wp2_with fail
 refine bodyPost_ret (gk rfl rfl (r10.put5 _ _ _ _ _) rfl) rfl ?_
 exact ⟨rfl,f1.put5 (Or.inl (Nat.le_refl _)) _ _ _ _ _⟩
theorem granted_yes (w:World) (p bf nf:Nat) (bs:List UInt8) (root page want:Int) (h:IsRam w p bf nf bs) (x:Res) (hx:cv bs nf root page=x) (hk:x.ft.k=0) (hb:bits .and .i64 x.ri want≠0) :
  Calls pQ 172 #[π (some ⟨p,0,none⟩),U κ root,U κ page,U κ want] w fun e w'=>e=ρ (τ #[U κ x.fr,U κ x.ri,.agg #[U κ x.ft.k,U κ x.ft.s,U κ x.ft.l,β x.ft.wk,U κ x.ft.p]])∧Fr bg w w':=by
 have f1:=Fr.refl bg w
 have t2:(x.ft.k == 0)=true:=by simp[hk]
 have t3:(bits .and .i64 x.ri want == 0)=false:=by simp[hb]
 clear hk hb
 have hs:=fun w0 h0=>tw w0 p bf nf bs root page h0
 rw[hx] at hs
 clear hx
 have r10:=ba w #[U κ 0,U κ 0,U κ 0,β false,U κ 0] 50
 replace h:=h.alloc (ω #[U κ 0,U κ 0,U κ 0,β false,U κ 0] 50)
 replace f1:=f1.alloc (ω #[U κ 0,U κ 0,U κ 0,β false,U κ 0] 50)
 go_enter Tryz.func172,Tryz.ntmps172
 go_wp2_with fail
 refine(hs _ h).mono ?_
 rintro e v1 ⟨rfl,g1⟩
 replace r10:=r10.keep g1 (fun h=>h)
 replace h:=h.keep g1 (fun h=>h) (fun h=>h)
 replace f1:=f1.trans g1
 clear g1
 clear h
 obtain ⟨c0x0,c0x1,c0x2,c0x3,c0x4⟩:=bl r10
 obtain ⟨z1x0,z1x1,z1x2,z1x3,z1x4⟩:=bz r10
 have q10:=r10
 replace r10:=r10.put5 (U κ x.ft.k) (U κ x.ft.s) (U κ x.ft.l) (β x.ft.wk) (U κ x.ft.p)
 replace f1:=f1.put5 (b:=w.heap.size) (Or.inl (by omega)) (U κ x.ft.k) (U κ x.ft.s) (U κ x.ft.l) (β x.ft.wk) (U κ x.ft.p)
 unfold put5 at r10 f1
 obtain ⟨c2x0,c2x1,c2x2,c2x3,c2x4⟩:=bl r10
 go_wp2_with fail
 refine(dh x.ft _).mono ?_
 rintro e v2 ⟨rfl,g2⟩
 clear c0x0 c0x1 c0x2 c0x3 c0x4 z1x0 z1x1 z1x2 z1x3 z1x4 q10 c2x0 c2x1 c2x2 c2x3 c2x4
 rw[t2]
 replace r10:=r10.keep g2 (fun h=>h)
 replace f1:=f1.trans g2
 clear g2
 obtain ⟨c3x0,c3x1,c3x2,c3x3,c3x4⟩:=bl r10
 obtain ⟨z4x0,z4x1,z4x2,z4x3,z4x4⟩:=bz r10
 go_wp2_with fail
 go_region
 go_wp2_with fail
 refine bodyPost_ret (gk rfl rfl (r10.put5 _ _ _ _ _).drew rfl) rfl ?_
 exact ⟨rfl,(f1.put5 (Or.inl (Nat.le_refl _)) _ _ _ _ _).drew⟩
theorem n5 (w:World) (p bf nf:Nat) (bs:List UInt8) (root page want:Int) (h:IsRam w p bf nf bs) :
  Calls pQ 172 #[π (some ⟨p,0,none⟩),U κ root,U κ page,U κ want] w fun e w'=>e=ρ (τ #[U κ (ce bs nf root page want).fr,U κ (ce bs nf root page want).ri,.agg #[U κ (ce bs nf root page want).ft.k,U κ (ce bs nf root page want).ft.s,U κ (ce bs nf root page want).ft.l,β (ce bs nf root page want).ft.wk,U κ (ce bs nf root page want).ft.p]])∧Fr bg w w':=by
 rcases nz bs nf root page want with ⟨h1,e⟩ | ⟨h1,h2,e⟩ | ⟨h1,h2,e⟩
 ·rw[e];exact granted_bad w p bf nf bs root page want h _ rfl h1
 ·rw[e];exact granted_no w p bf nf bs root page want h _ rfl h1 h2
 ·rw[e];exact granted_yes w p bf nf bs root page want h _ rfl h1 h2
end Go.Proofs.YtibhbjbpodlpiaaGreat
