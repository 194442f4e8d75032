/-
  A loop over an iterator whose needs the caller's own invariant tells, round by round (the body may turn what the iterator has read already). No statement is proved here.
-/
import Derived.Test.YtjobdfkfongjaaaIpRow
import Derived.RangeFuncNested
import Derived.RangeFuncBound
import Derived.RangeFuncCalls
import Derived.RangeFuncLeaves
import Derived.Shelf.RegionOpen
import Derived.WalkKit
import Derived.OwnWalkIn
import Derived.TacticsInMore
import Derived.LoopNIn
import Derived.LoopIn
import Derived.Sort.QuietIn
namespace Go.Proofs.Ytjobdfkfongjaaa
open Go.RowKit Go.Shelf

/-- What an iterator promises: m rounds, the k-th at 'xs k', as long as what it needs is told by the caller's J. -/
def Seq13 (n : Nat) (g : Nat) (lb : Array Value) (m : Nat) (xs : Nat → Array Value) (Need : Nat → World → Prop) : Prop :=
  ∀ (l : Nat) (J Jx : Nat → World → Prop) (W : World), (∀ k V, J k V → Need k V) → (∀ k V i, J k V → J k (V.drewN i)) →
    (∀ k V, J k V → k < m → YieldAt Fence.wide (n - 1) Try.prog l (xs k) V fun e V' => (e = .returned (.bool true) ∧ J (k + 1) V') ∨ (e = .returned (.bool false) ∧ Jx (k + 1) V')) →
    J 0 W → CallsIn Fence.wide n Try.prog g (#[.func (.yield l) #[] #[]] ++ lb) W fun e V => (∃ v, e = .returned v) ∧ (J m V ∨ ∃ k, k ≤ m ∧ Jx k V)

/-- The loop's own two blocks: the deferred calls', and the record behind it. -/
structure Bk (W : World) (D : Nat) (r : Loop) : Prop where
  df : W.heap[D]? = some (.deferred (some []))
  rc : W.heap[D + 1]? = some (.loop r)

theorem Bk.lt {W : World} {D : Nat} {r : Loop} (h : Bk W D r) : D + 1 < W.heap.size := (Array.getElem?_eq_some_iff.1 h.rc).1
theorem Bk.put {W : World} {D : Nat} {r : Loop} (h : Bk W D r) (r' : Loop) : Bk (W.putObj (D + 1) (.loop r')) D r' :=
  ⟨(World.putObj_heap_other (by omega)).trans h.df, World.putObj_heap_same h.lt⟩
theorem Bk.on {W W' : World} {D : Nat} {r : Loop} (h : Bk W D r) (k : KeepsFrom D W W') : Bk W' D r :=
  ⟨k.same D _ (Nat.le_refl _) h.df rfl, k.same (D + 1) _ (by omega) h.rc rfl⟩

theorem OwnFrom.drewN {β : Type} {B : Nat} {I : β → World → Prop} (h : OwnFrom B I) {s : β} {W : World} (hs : I s W) (i : Nat) : I s (W.drewN i) :=
  h s W _ none hs ⟨rfl, rfl, rfl, Nat.le_refl _, fun _ _ _ => rfl⟩ (fun r e => by cases e)

/-- How a round may end. -/
def post13 (B : Nat) (I : Nat → World → Prop) (Ix : Nat → World → Prop) (k : Nat) (W : World) : Exit → Act → World → Prop
  | .normal, _, W' => KeepsFrom B W W' ∧ I k W'
  | .ret, _, W' => KeepsFrom B W W' ∧ Ix k W'
  | _, _, _ => False

/-- The statement 'for .. := range': rounds 0 to m; a body may leave by a return. -/
theorem range13 {n : Nat} {g : Operand} {ps : Array Tmp} {assign body : Code} {Q : Exit → Act → World → Prop} {a : Act} {w : World} (h1 : 1 ≤ n)
    {gf : Nat} {lb : Array Value} (hg : a.eval g = .func (.func gf) #[] lb) (eg : ∀ args w, (callFunc gf args).run Try.prog w = .ok (.enter gf args) w)
    {m : Nat} {xs : Nat → Array Value} {Need : Nat → World → Prop} (hit : Seq13 (n - 1) gf lb m xs Need) (hps : ∀ k, (xs k).size = ps.size)
    (I Ix : Nat → World → Prop) (hI : OwnFrom w.heap.size I) (hIx : OwnFrom w.heap.size Ix) (hneed : ∀ k V, I k V → Need k V) (h0 : I 0 w) (a₁ : Nat → Act)
    (hassign : ∀ (l k : Nat) (W : World) (K : Act → World → Prop), K (a₁ k) W → assign.wpIn (Fence.wide.inRound l) (n - 1 - 1) Try.prog (Exit.then K (fun _ _ _ => False)) { tmps := (ps.zip (xs k)).foldl (fun t (p, v) => t.setIfInBounds p v) a.tmps, defers := [] } W)
    (hbody : ∀ (l k : Nat) (W : World), I k W → k < m → body.wpIn (Fence.wide.inRound l) (n - 1 - 1) Try.prog (post13 w.heap.size I Ix (k + 1) W) (a₁ k) W)
    (hdone : ∀ (D : Nat) (W : World), w.heap.size ≤ D → I m W → W.heap[D]? = some (.deferred (some [])) → Q .normal { a with defers := { target := .collected D, args := #[] } :: a.defers } W)
    (hstop : ∀ (D k : Nat) (W : World), w.heap.size ≤ D → k ≤ m → Ix k W → W.heap[D]? = some (.deferred (some [])) → Code.ret.wpIn Fence.wide n Try.prog Q { a with defers := { target := .collected D, args := #[] } :: a.defers } W) :
    (Code.rangeFunc g ps assign body).wpIn Fence.wide n Try.prog Q a w := by
  refine wpIn_rangeFunc fun fn hfn => ?_
  -- the record, by its state and what is pending
  let R : LoopState → Option Code → Loop := fun st pe => { state := st, pending := pe, fn, tmps := a.tmps, params := ps, assign, body, defers := w.heap.size }
  let W1 : World := (w.alloc (.deferred (some []))).alloc (.loop (R .ready none))
  have hs : (w.alloc (.deferred (some []))).heap.size = w.heap.size + 1 := by simp
  have b1 : Bk W1 w.heap.size (R .ready none) :=
    ⟨(Below.heap_alloc _ _ _ (by simp)).trans (World.alloc_heap_new w _), by have := World.alloc_heap_new (w.alloc (.deferred (some []))) (.loop (R .ready none)); rwa [hs] at this⟩
  have i1 : I 0 W1 := hI.alloc _ (hI.alloc _ h0)
  refine ⟨w.heap.size + 1, [{ target := .collected w.heap.size, args := #[] }], W1, { target := .fn (.func gf) lb, args := #[.func (.yield (w.heap.size + 1)) #[] #[]] }, W1, gf, #[.func (.yield (w.heap.size + 1)) #[] #[]] ++ lb, W1,
    run_enterLoop_outer _ _ _ _ _, by simp only [resolve, hg]; simp [go_sem], fun _ _ => trivial, by simp [invoke, go_sem, eg], fun _ => h1, ?_⟩
  have turn : ∀ {s : Nat} {V : World} {r : Loop} (J : Nat → World → Prop), OwnFrom w.heap.size J → J s V → Bk V w.heap.size r → ∀ r', J s (V.putObj (w.heap.size + 1) (.loop r')) :=
    fun J hJ hs hb r' => hJ.putObj _ hs (by omega) hb.rc rfl
  refine (hit (w.heap.size + 1) (fun k V => I k V ∧ Bk V w.heap.size (R .ready none)) (fun k V => Ix k V ∧ Bk V w.heap.size (R .done (some .ret))) W1 (fun k V h => hneed k V h.1) (fun k V i h => ⟨OwnFrom.drewN hI h.1 i, h.2.df, h.2.rc⟩) ?_ ⟨i1, b1⟩).mono ?_
  · rintro k V ⟨hi, hb⟩ hk
    refine ⟨fn, _, assign, body, run_yield (P := Try.prog) (args := xs k) hb.rc (hps k), roundIn_of_wpIn hfn (hassign _ k V _ ⟨_, run_beginRound hb.rc rfl, ?_⟩)⟩
    have hb2 := hb.put (R .busy none)
    refine wpIn_mono (hbody (w.heap.size + 1) k _ (turn I hI hi hb _) hk) ?_
    intro e a3 V3 hp
    cases e with
    | normal =>
      have hb3 := hb2.on hp.1
      exact ⟨_, _, run_endRound none hb3.rc, .inl ⟨rfl, turn I hI hp.2 hb3 _, hb3.put _⟩⟩
    | ret =>
      have hb3 := hb2.on hp.1
      exact ⟨_, _, run_endRound (some .ret) hb3.rc, .inr ⟨rfl, turn Ix hIx hp.2 hb3 _, hb3.put _⟩⟩
    | exit id => exact hp.elim
    | goto t => exact hp.elim
    | panic c => exact hp.elim
    | outgrown => exact hp.elim
  · rintro e V ⟨⟨v, rfl⟩, ⟨hi, hb⟩ | ⟨k, hk, hi, hb⟩⟩
    · exact ⟨none, _, run_endLoop hb.rc (by simp [R]), hdone _ _ (Nat.le_refl _) (turn I hI hi hb _) (hb.put _).df⟩
    · exact ⟨some .ret, _, run_endLoop hb.rc (by simp [R]), hstop _ k _ (Nat.le_refl _) hk (turn Ix hIx hi hb _) (hb.put _).df⟩

theorem keeps_fr {S : Nat → Prop} {W W' : World} (f : Fr S W W') (hS : ∀ k, S k → ∀ o, W.heap[k]? = some o → o.isCells = true) (B : Nat) : KeepsFrom B W W' :=
  ⟨f.size, fun k o _ hk ho => (f.block k (Array.getElem?_eq_some_iff.1 hk).1 (fun s => by rw [hS k s o hk] at ho; cases ho)).trans hk⟩
/-- A change below a number leaves what lies above it. -/
theorem keeps_low {S : Nat → Prop} {W W' : World} {B : Nat} (f : Fr S W W') (hS : ∀ k, S k → k < B) : KeepsFrom B W W' :=
  ⟨f.size, fun k o hb hk _ => (f.block k (Array.getElem?_eq_some_iff.1 hk).1 (fun s => by have := hS k s; omega)).trans hk⟩
theorem row_grown {W W' : World} {row : Option Nat} {b : Nat} {cs : Array Value} {t : TypeId} (h : Row W b cs t) (hg : W.grownBy W' row) (hr : ∀ r, row = some r → ∃ o : Obj, W.heap[r]? = some o ∧ o.isCells = false) : Row W' b cs t := by
  refine h.keep (fr_of_grown' hg) (fun e => ?_)
  obtain ⟨o, ho, hc⟩ := hr b e.symm
  rw [show W.heap[b]? = _ from h] at ho
  cases ho
  cases hc
theorem fr_grown {w W W' : World} {row : Option Nat} {B : Nat} (h : Fr none' w W) (hg : W.grownBy W' row) (hB : w.heap.size ≤ B) (hr : ∀ r, row = some r → B ≤ r) : Fr none' w W' :=
  ⟨hg.os.trans h.os, hg.tape.trans h.tape, hg.output.trans h.output, Nat.le_trans h.size hg.size, fun k hk hn => (hg.block k (Nat.lt_of_lt_of_le hk h.size) (fun e => by have := hr k e.symm; omega)).trans (h.block k hk hn)⟩
theorem fr_grownS {S : Nat → Prop} {w W W' : World} {row : Option Nat} {B : Nat} (h : Fr S w W) (hg : W.grownBy W' row) (hB : w.heap.size ≤ B) (hr : ∀ r, row = some r → B ≤ r) : Fr S w W' :=
  ⟨hg.os.trans h.os, hg.tape.trans h.tape, hg.output.trans h.output, Nat.le_trans h.size hg.size, fun k hk hn => (hg.block k (Nat.lt_of_lt_of_le hk h.size) (fun e => by have := hr k e.symm; omega)).trans (h.block k hk hn)⟩
theorem fr_high {w w1 w2 : World} {S : Nat → Prop} (f : Fr none' w w1) (g : Fr S w1 w2) (h : ∀ q, S q → w.heap.size ≤ q) : Fr none' w w2 :=
  ⟨g.os.trans f.os, g.tape.trans f.tape, g.output.trans f.output, Nat.le_trans f.size g.size, fun i hi hn => (g.block i (Nat.lt_of_lt_of_le hi f.size) (fun e => by have := h i e; omega)).trans (f.block i hi hn)⟩

end Go.Proofs.Ytjobdfkfongjaaa
