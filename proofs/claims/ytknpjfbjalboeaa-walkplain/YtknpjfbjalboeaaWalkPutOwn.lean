/-
  A slice of entries to be laid, of the call's own. No statement is proved here.
-/
import Derived.Test.YtknpjfbjalboeaaWalkLaid
import Derived.Test.YtknpjfbjalboeaaGrow
import Derived.Test.YtknpjfbjalboeaaRefFrame
import Derived.Laws.AppendOwnNone
namespace Go.Proofs.Ytknpjfbjalboeaa
open Go.RowKit

def ptV (q : Pt) : Array Value := #[.int .i64 q.t, .int .i64 q.i, .bool q.v, .bool q.l, .int .i64 q.r, .int .i64 q.f, .bool q.raw, .int .u16 (q.x : Int)]

/-- Cells that show n of them. -/
def IsPts (get : Nat → Option Value) (n : Nat) (Q : Nat → Pt) : Prop := ∀ j, j < n → ∀ i, i < 8 → get (j * 8 + i) = (ptV (Q j))[i]?

/-- A slice of the call's own that holds n of them. -/
def OwnP (w : World) (B : Nat) (v : Value) (n : Nat) (Q : Nat → Pt) : Prop := ∃ L, w.ownsRow B 47 8 v n L ∧ IsPts (fun j => L[j]?) n Q ∧ ∀ j, j < n → (Q j).x < 65536

theorem ownp_nil (w : World) (B : Nat) (Q : Nat → Pt) : OwnP w B (.slice none 0 0) 0 Q := ⟨[], ⟨rfl, Or.inl ⟨rfl, rfl⟩⟩, fun j hj => by omega, fun j hj => by omega⟩

theorem OwnP.keep0 {w w' : World} {B n : Nat} {v : Value} {Q : Nat → Pt} (h : OwnP w B v n Q) (f : Fr none' w w') : OwnP w' B v n Q := by
  obtain ⟨L, ⟨hl, h | ⟨g, cap, cur, hv, hb, hg, hc, hm, hs', ht⟩⟩, hL⟩ := h
  · exact ⟨L, ⟨hl, Or.inl h⟩, hL⟩
  · exact ⟨L, ⟨hl, Or.inr ⟨g, cap, cur, hv, hb, (show Row w' g cur _ from Row.keep (show Row w g cur _ from hg) f (fun h => h)), hc, hm, hs', ht⟩⟩, hL⟩

theorem OwnP.congr {w : World} {B n : Nat} {v : Value} {Q Q' : Nat → Pt} (h : OwnP w B v n Q) (e : ∀ j, j < n → Q j = Q' j) : OwnP w B v n Q' := by
  obtain ⟨L, h1, h2, h3⟩ := h
  exact ⟨L, h1, fun j hj => by rw [← e j hj]; exact h2 j hj, fun j hj => by rw [← e j hj]; exact h3 j hj⟩

theorem OwnP.high {w : World} {B n : Nat} {v : Value} {Q : Nat → Pt} (h : OwnP w B v n Q) (k : Nat) (hk : some k = v.ownBlock) : B ≤ k := by
  obtain ⟨L, ⟨_, h | ⟨g, cap, cur, hv, hb, _⟩⟩, _⟩ := h
  · rw [h.1] at hk; simp [Value.ownBlock] at hk
  · rw [hv] at hk; simp [Value.ownBlock] at hk; omega

theorem Fr.ownP {w w1 w2 : World} {n : Nat} {v : Value} {Q : Nat → Pt} (f : Fr none' w w1) (g : Fr (fun q => some q = v.ownBlock) w1 w2) (o : OwnP w1 w.heap.size v n Q) : Fr none' w w2 :=
  ⟨g.os.trans f.os, g.tape.trans f.tape, g.output.trans f.output, Nat.le_trans f.size g.size, fun i hi hn => (g.block i (Nat.lt_of_lt_of_le hi f.size) (fun e => by have := o.high i e; omega)).trans (f.block i hi hn)⟩

/-- As a slice that can be laid. -/
theorem OwnP.puts {w : World} {B n : Nat} {v : Value} {Q : Nat → Pt} (h : OwnP w B v n Q) : ∃ a0 cap, v = .slice a0 n cap ∧ Puts w a0 n Q := by
  obtain ⟨L, ⟨hl, h | ⟨g, cap, cur, hv, hb, hg, hc, hm, hs, ht⟩⟩, hL, hx⟩ := h
  · obtain ⟨rfl, rfl⟩ := h
    exact ⟨none, 0, rfl, fun k hk => by omega⟩
  · refine ⟨_, cap, hv, fun k hk => ⟨g, 0, rfl, ?_⟩⟩
    have key : ∀ i, i < 8 → w.cell? ⟨g, 0 + k * 8 + i, none⟩ = (ptV (Q k))[i]? := fun i hi => by
      rw [(show Row w g cur _ from hg).cell, Nat.zero_add, ← hL k hk i hi]
      show cur[k * 8 + i]? = L[k * 8 + i]?
      rw [← ht, List.getElem?_take, if_pos (by omega)]
      simp
    exact ⟨key 0 (by omega), key 1 (by omega), key 2 (by omega), key 3 (by omega), key 4 (by omega), key 5 (by omega), key 6 (by omega), key 7 (by omega), hx k hk⟩

theorem info_put : (Try.prog.info? 47).map (fun i => (i.zero, i.bytes, i.size)) = some (some (.agg (ptV ⟨0, 0, false, false, 0, 0, false, 0⟩)), 48, 8) := by kernel_rfl

def updP (Q : Nat → Pt) (k : Nat) (x : Pt) : Nat → Pt := fun j => if j = k then x else Q j

/-- One more. -/
theorem append_put (w : World) (B : Nat) (a : Addr) (v : Value) (k : Nat) (Q : Nat → Pt) (x : Pt) (hb : B ≤ w.heap.size) (ho : OwnP w B v k Q) (hk : k < 1000) (hx : x.x < 65536)
    (c : ∀ i u, (ptV x)[i]? = some u → w.cell? (a.add i) = some u) :
    ∃ v' w', (Builtin.append_ #[22, 22] 22 #[v, .slice (some a) 1 1]).run Try.prog w = .ok v' w' ∧ Fr (fun q => some q = v.ownBlock) w w' ∧ OwnP w' B v' (k + 1) (updP Q k x) := by
  obtain ⟨L, ho, hL, hw⟩ := ho
  have hi := info_put
  cases hq : Try.prog.info? 47 with
  | none => simp [hq] at hi
  | some i =>
    rw [hq] at hi
    simp only [Option.map_some, Option.some.injEq, Prod.mk.injEq] at hi
    obtain ⟨hz, hby, hs⟩ := hi
    obtain ⟨v', w', h1, h2, h3, _⟩ := run_append_own (P := Try.prog) w B 22 22 47 i _ 8 48 Try.underlying22 hq hz hs hby rfl (by omega) v k L ho a 1 1 (ptV x).toList rfl
      (fun j u hu => c j u (by simpa using hu))
      (fun u hu => by simp [ptV] at hu; rcases hu with rfl | rfl | rfl | rfl | rfl | rfl | rfl | rfl <;> simp [Value.oneCell'])
      (by simp only [maxLen]; omega) (by omega) hb
    have hlen := ho.1
    refine ⟨v', w', h1, fr_of_grown h3, _, h2, fun j hj i hi => ?_, fun j hj => ?_⟩
    · show (L ++ (ptV x).toList)[j * 8 + i]? = (ptV (updP Q k x j))[i]?
      unfold updP
      by_cases hjk : j = k
      · subst hjk
        rw [if_pos rfl, List.getElem?_append_right (by omega), show j * 8 + i - L.length = i by omega]
        simp
      · rw [if_neg hjk, List.getElem?_append_left (by omega)]
        exact hL j (by omega) i hi
    · unfold updP
      by_cases hjk : j = k
      · rw [if_pos hjk]; exact hx
      · rw [if_neg hjk]; exact hw j (by omega)

/-- One more, of a list that is known ahead. -/
theorem append_pl (w : World) (B : Nat) (a : Addr) (v : Value) (k : Nat) (F : Nat → Pt) (x : Pt) (hb : B ≤ w.heap.size) (ho : OwnP w B v k F) (hk : k < 1000) (hx : x.x < 65536) (hF : F k = x)
    (c : ∀ i u, (ptV x)[i]? = some u → w.cell? (a.add i) = some u) :
    ∃ v' w', (Builtin.append_ #[22, 22] 22 #[v, .slice (some a) 1 1]).run Try.prog w = .ok v' w' ∧ Fr (fun q => some q = v.ownBlock) w w' ∧ OwnP w' B v' (k + 1) F := by
  obtain ⟨v', w', h1, h2, h3⟩ := append_put w B a v k F x hb ho hk hx c
  refine ⟨v', w', h1, h2, h3.congr fun j _ => ?_⟩
  unfold updP
  by_cases e : j = k
  · rw [if_pos e, e, hF]
  · rw [if_neg e]

/-- A block just laid holds it. -/
theorem laid_cells (w : World) (x : Pt) : ∀ i u, (ptV x)[i]? = some u → (w.alloc (.cells (ptV x) 47)).cell? ((⟨w.heap.size, 0, none⟩ : Addr).add i) = some u := fun i u hu => by
  rw [add_lit', Nat.zero_add, (row_alloc w (ptV x) _).cell]; exact hu

end Go.Proofs.Ytknpjfbjalboeaa
