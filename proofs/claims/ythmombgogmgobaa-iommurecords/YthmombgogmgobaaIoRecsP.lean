/-
  For the law IommuRecords: a controller with no tables, beside it an own list of records; and what an access of a stream without a table does. No statement is proved here.
-/
import Derived.Test.YthmombgogmgobaaIoConfP
import Derived.Test.YthmombgogmgobaaIoAwake
import Derived.Test.YthmombgogmgobaaIoNums
namespace Go.Proofs.Ythmombgogmgobaa
open Go.RowKit

theorem chgU_fr0 {w wa wb : World} {U U' : Nat → Prop} (f : Fr none' w wa) (u : ChgU wa U wb U') (h : ∀ k, U k → w.heap.size ≤ k) : Fr none' w wb ∧ ∀ k, U' k → w.heap.size ≤ k :=
  ⟨⟨u.1.os.trans f.os, u.1.tape.trans f.tape, u.1.output.trans f.output, Nat.le_trans f.size u.1.size, fun i hi hn => (u.1.block i (Nat.lt_of_lt_of_le hi f.size) (fun e => by have := h i e; omega)).trans (f.block i hi hn)⟩, fun k hk => by
    rcases u.2 k hk with e | e
    · exact h k e
    · exact Nat.le_trans f.size e⟩

/-- No stream has a table, nothing is remembered. -/
structure Bare (S : Io) : Prop where
  ro : S.ro = fun _ => -1
  ln : S.ln = fun _ => none
theorem bare0 : Bare io0 := ⟨rfl, rfl⟩
theorem Bare.rcd {S : Io} (h : Bare S) (x : Rc) : Bare (recS S x) := by
  unfold recS
  split
  · exact ⟨h.ro, h.ln⟩
  · exact ⟨h.ro, h.ln⟩
theorem Bare.tk {S : Io} (h : Bare S) : Bare (tkS S) := ⟨h.ro, h.ln⟩
theorem Bare.dma {S : Io} (h : Bare S) (bs : List UInt8) {s a : Int} (hs : 0 ≤ s ∧ s ≤ 15) (ha : 0 ≤ a ∧ a ≤ 65535) (wr : Bool) (b : Nat) :
    dmaV bs 16 S s a wr b = 0 ∧ dmaE bs 16 S s a wr = 101 ∧ dmaB bs 16 S s a wr b = bs ∧ dmaS bs 16 S s a wr = recS S ⟨s, a / 64, 1, wr⟩ := by
  have h1 := isS_iff.mpr hs
  have h2 := isAd_iff.mpr ha
  have hk : okL s (a / 64) (wantI wr) (S.ln ((a / 64) % 8).toNat) = false := by rw [h.ln]; rfl
  have hw : walkK bs 16 (S.ro s.toNat) (a / 64) (wantI wr) = 1 := by unfold walkK; rw [h.ro]; rfl
  have hf : fndK bs 16 S s (a / 64) (wantI wr) = 1 := by unfold fndK; rw [hk, hw]; rfl
  have hS : fndS bs 16 S s (a / 64) (wantI wr) = S := by unfold fndS; rw [hk, hw]; rfl
  have hK : dmaK bs 16 S s a wr = 1 := by unfold dmaK reaK; rw [hf]; simp
  refine ⟨?_, ?_, ?_, ?_⟩
  · unfold dmaV dmaOk; rw [h1, h2, hK]; rfl
  · unfold dmaE; rw [h1, h2, hK]; rfl
  · unfold dmaB dmaOk; rw [h1, h2, hK]; rfl
  · unfold dmaS dmaOk; rw [h1, h2, hK, hS]; rfl

/-- The desk of the law: the system, and an own list of records apart from it. -/
structure Hv (w wr : World) (x pm bm pr br bi ji : Nat) (O Q : Nat → Prop) (bs : List UInt8) (S : Io) (a : Value) (L : List Rc) : Prop where
  fr : Fr none' w wr
  bo : BoAt wr x pm bm pr br bi ji O Q bs bs S io0
  nx : ∀ u, boU x pm bm pr br O Q u → w.heap.size ≤ u
  rc : RcS wr a L
  na : ∀ g, some g = a.ownBlock → w.heap.size ≤ g ∧ ¬ boU x pm bm pr br O Q g
  ba : Bare S

section
variable {w wr w' : World} {x pm bm pr br bi ji : Nat} {O Q O' : Nat → Prop} {bs : List UInt8} {S S' : Io} {a a' : Value} {L L' : List Rc}
theorem Hv.step (h : Hv w wr x pm bm pr br bi ji O Q bs S a L) (b : BoAt w' x pm bm pr br bi ji O' Q bs bs S' io0) (u : ChgU wr (boU x pm bm pr br O Q) w' (boU x pm bm pr br O' Q)) (k : Bare S') : Hv w w' x pm bm pr br bi ji O' Q bs S' a L :=
  ⟨(chgU_fr0 h.fr u h.nx).1, b, (chgU_fr0 h.fr u h.nx).2, h.rc.keep u.1 (fun g hg => (h.na g hg).2), fun g hg => ⟨(h.na g hg).1, fun e => by
    rcases u.2 g e with e | e
    · exact (h.na g hg).2 e
    · have := h.rc.lt g hg
      omega⟩, k⟩
theorem Hv.keep0 (h : Hv w wr x pm bm pr br bi ji O Q bs S a L) (f : Fr none' wr w') : Hv w w' x pm bm pr br bi ji O Q bs S a L :=
  ⟨h.fr.trans f, h.bo.keep0 f, h.nx, h.rc.keep f (fun _ _ h => h), h.na, h.ba⟩
theorem Hv.other (h : Hv w wr x pm bm pr br bi ji O Q bs S a L) {B : Nat} (f : Fr (at' B) wr w') (h1 : w.heap.size ≤ B) (h2 : ¬ boU x pm bm pr br O Q B) (h3 : some B ≠ a.ownBlock) : Hv w w' x pm bm pr br bi ji O Q bs S a L :=
  ⟨h.fr.newer f h1, h.bo.keep f (fun k hk e => h2 (by rw [← (e : k = B)]; exact hk)), h.nx, h.rc.keep f (fun g hg e => h3 (by rw [← (e : g = B)]; exact hg)), h.na, h.ba⟩
theorem Hv.turn (h : Hv w wr x pm bm pr br bi ji O Q bs S a L) {g : Nat} (f : Fr (fun k => some k = a.ownBlock) wr w') (r : RcS w' a' L') (hg : a'.ownBlock = some g) (ho : a.ownBlock = some g ∨ g = wr.heap.size) : Hv w w' x pm bm pr br bi ji O Q bs S a' L' :=
  ⟨⟨f.os.trans h.fr.os, f.tape.trans h.fr.tape, f.output.trans h.fr.output, Nat.le_trans h.fr.size f.size, fun i hi hn => (f.block i (Nat.lt_of_lt_of_le hi h.fr.size) (fun e => by have := (h.na i e).1; omega)).trans (h.fr.block i hi hn)⟩,
    h.bo.keep f (fun k hk e => (h.na k e).2 hk), h.nx, r, fun g' hg' => by
      rw [hg] at hg'
      obtain rfl := Option.some.inj hg'
      rcases ho with ho | ho
      · exact h.na g' ho.symm
      · exact ⟨by rw [ho]; exact h.fr.size, fun e => by have := h.bo.lt _ e; omega⟩, h.ba⟩
theorem Hv.new (h : Hv w wr x pm bm pr br bi ji O Q bs S a L) : w.heap.size ≤ wr.heap.size ∧ ¬ boU x pm bm pr br O Q wr.heap.size ∧ some wr.heap.size ≠ a.ownBlock :=
  ⟨h.fr.size, fun e => by have := h.bo.lt _ e; omega, fun e => by have := h.rc.lt _ e; omega⟩
end

end Go.Proofs.Ythmombgogmgobaa
