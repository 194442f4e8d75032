/-
  Contracts over the translation. No statement is proved here.
-/
import Derived.Test.YtibhbjbpodlpiaaGreatQJK
set_option maxRecDepth 100000
set_option maxHeartbeats 8000000
namespace Go.Proofs.YtibhbjbpodlpiaaGreat
open Go.RowKit
open Go.Value renaming int → U, bool → β, pointer → π, tuple → τ
open Go.IntKind renaming i64 → κ, u32 → μ
open Go.Obj renaming cells → ω
open Go.Ending renaming returned → ρ
theorem nested_cases (bs:List UInt8) (nf:Nat) (first second page want:Int) :
  ((isP page=false∨isR want=false)∧cg bs nf first second page want=rv 3 0 0 false 0) ∨
  (isP page=true∧isR want=true∧first<0∧cg bs nf first second page want=ce bs nf second page want) ∨
  (isP page=true∧isR want=true∧(cg bs nf first second page want).ft.k≠0∧(cg bs nf first second page want).fr=0∧(cg bs nf first second page want).ri=0) ∨
  (isP page=true∧isR want=true∧¬ first<0∧(cg bs nf first second page want).ft.k=0∧∃ y:Res,(0≤y.fr∧y.fr≤1023)∧(0≤y.ri∧y.ri≤7)∧bits .and .i64 y.ri want≠0 ∧
   (ce bs nf second y.fr want).ft.k=0∧(cg bs nf first second page want).fr=(ce bs nf second y.fr want).fr∧(cg bs nf first second page want).ri=bits .and .i64 (ce bs nf second y.fr want).ri y.ri∧(cg bs nf first second page want).ft=f0):=by
 by_cases h0:isP page=false∨isR want=false
 ·left;refine ⟨h0,?_⟩;unfold cg;rw[if_pos h0]
 have hp:isP page=true:=by cases h:isP page with | true=>rfl | false=>exact absurd (Or.inl h) h0
 have hw:isR want=true:=by cases h:isR want with | true=>rfl | false=>exact absurd (Or.inr h) h0
 right
 by_cases hf:first<0
 ·left;refine ⟨hp,hw,hf,?_⟩;unfold cg;rw[if_neg h0,if_pos hf]
 right
 by_cases h1:(ci bs nf second first page 0).ft.k=0
 ·by_cases h2:(ci bs nf second (ci bs nf second first page 0).fr page 1).ft.k=0
  ·by_cases h3:bits .and .i64 (ci bs nf second (ci bs nf second first page 0).fr page 1).ri want=0
   ·left
    have e:cg bs nf first second page want=rv 2 1 1 false page:=by
     unfold cg
     rw[if_neg h0,if_neg hf,if_neg (by simpa using h1),if_neg (by simpa using h2),if_pos h3]
    rw[e]
    exact ⟨hp,hw,(by decide:(2:Int)≠0),rfl,rfl⟩
   ·have e:cg bs nf first second page want=⟨(ce bs nf second (ci bs nf second (ci bs nf second first page 0).fr page 1).fr want).fr,
      bits .and .i64 (ce bs nf second (ci bs nf second (ci bs nf second first page 0).fr page 1).fr want).ri (ci bs nf second (ci bs nf second first page 0).fr page 1).ri,
      (ce bs nf second (ci bs nf second (ci bs nf second first page 0).fr page 1).fr want).ft⟩:=by
     unfold cg
     rw[if_neg h0,if_neg hf,if_neg (by simpa using h1),if_neg (by simpa using h2),if_neg h3]
    have hr:=guest_range h2
    by_cases h4:(ce bs nf second (ci bs nf second (ci bs nf second first page 0).fr page 1).fr want).ft.k=0
    ·right
     rw[e]
     exact ⟨hp,hw,hf,h4,ci bs nf second (ci bs nf second first page 0).fr page 1,hr.1,hr.2,h3,h4,rfl,rfl,granted_f0 h4⟩
    ·left
     rw[e]
     have z:=p5 _ _ _ _ _ h4
     refine ⟨hp,hw,h4,z.1,?_⟩
     show bits .and .i64 (ce bs nf second (ci bs nf second (ci bs nf second first page 0).fr page 1).fr want).ri (ci bs nf second (ci bs nf second first page 0).fr page 1).ri=0
     rw[z.2]
     have a:=and_range 0 (ci bs nf second (ci bs nf second first page 0).fr page 1).ri (by omega) (by omega)
     omega
  ·left
   have e:cg bs nf first second page want=ci bs nf second (ci bs nf second first page 0).fr page 1:=by
    unfold cg
    rw[if_neg h0,if_neg hf,if_neg (by simpa using h1),if_pos h2]
   rw[e]
   exact ⟨hp,hw,h2,(jf _ _ _ _ _ _ h2).1,(jf _ _ _ _ _ _ h2).2⟩
 ·left
  have e:cg bs nf first second page want=ci bs nf second first page 0:=by
   unfold cg
   rw[if_neg h0,if_neg hf,if_pos h1]
  rw[e]
  exact ⟨hp,hw,h1,(jf _ _ _ _ _ _ h1).1,(jf _ _ _ _ _ _ h1).2⟩
theorem nested_zero (bs:List UInt8) (nf:Nat) (first second page want:Int) (h:(cg bs nf first second page want).ft.k≠0):(cg bs nf first second page want).fr=0∧(cg bs nf first second page want).ri=0:=by
 rcases nested_cases bs nf first second page want with ⟨_,e⟩ | ⟨_,_,_,e⟩ | ⟨_,_,_,e⟩ | ⟨_,_,_,e,_⟩
 ·rw[e];exact ⟨rfl,rfl⟩
 ·rw[e] at h ⊢;exact p5 _ _ _ _ _ h
 ·exact e
 ·exact absurd e h
end Go.Proofs.YtibhbjbpodlpiaaGreat
