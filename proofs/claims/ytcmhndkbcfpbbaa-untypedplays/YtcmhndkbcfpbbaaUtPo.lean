/-
  A pool that a law made, beside blocks of others: package untyped's calls by what they say. No statement is proved here.
-/
import Derived.Test.YtcmhndkbcfpbbaaUtAdd
import Derived.Test.YtcmhndkbcfpbbaaUtReset
import Derived.Test.YtcmhndkbcfpbbaaTwin
namespace Go.Proofs.Ytcmhndkbcfpbbaa
open Go.RowKit Go.Maps Go.WideMaps

/-- b is a pool newer than w0, of whose blocks none is O's; O's are there. -/
def Po (w0 w : World) (b : Nat) (L : List Rg) (O : Nat → Prop) : Prop := ∃ p : Pb, p.b = b ∧ IsP w p L ∧ (∀ k, p.s L k → w0.heap.size ≤ k ∧ ¬ O k) ∧ (∀ k, O k → k < w.heap.size) ∧ Fr none' w0 w
/-- Nothing old has turned, and nothing of O's. -/
def FrO (w0 : World) (O : Nat → Prop) (w w' : World) : Prop := Fr (fun k => w0.heap.size ≤ k ∧ ¬ O k) w w'

section
variable {w0 w w' : World} {b : Nat} {L L' : List Rg} {O : Nat → Prop}
theorem Po.good (h : Po w0 w b L O) : GoodL L := by obtain ⟨p, _, h, _⟩ := h; exact h.good
theorem Po.old (h : Po w0 w b L O) : Fr none' w0 w := by obtain ⟨p, _, _, _, _, f⟩ := h; exact f
theorem Po.lt (h : Po w0 w b L O) : ∀ k, O k → k < w.heap.size := by obtain ⟨p, _, _, _, f, _⟩ := h; exact f
theorem fr_new {S : Nat → Prop} (h : Fr none' w0 w) (f : Fr S w w') (hs : ∀ k, S k → w0.heap.size ≤ k) : Fr none' w0 w' :=
  ⟨f.os.trans h.os, f.tape.trans h.tape, f.output.trans h.output, Nat.le_trans h.size f.size, fun i hi hn => (f.block i (Nat.lt_of_lt_of_le hi h.size) (fun e => by have := hs i e; omega)).trans (h.block i hi hn)⟩
theorem po_chg {p : Pb} (hs : ∀ k, p.s L k → w0.heap.size ≤ k ∧ ¬ O k) (hO : ∀ k, O k → k < w.heap.size) (hf : Fr none' w0 w) (c : Chg w p L w' L') : Po w0 w' p.b L' O ∧ FrO w0 O w w' := by
  obtain ⟨p', e, q1, q2, q3⟩ := c
  refine ⟨⟨p', e, q1, fun k hk => ?_, fun k hk => Nat.lt_of_lt_of_le (hO k hk) q2.size, fr_new hf q2 (fun k hk => (hs k hk).1)⟩, q2.mono (fun k _ hk => hs k hk)⟩
  rcases q3 k hk with h | h
  · exact hs k h
  · have := hf.size
    exact ⟨by omega, fun ho => by have := hO k ho; omega⟩
theorem Po.keep {S : Nat → Prop} (h : Po w0 w b L O) (f : Fr S w w') (hs : ∀ k, S k → w0.heap.size ≤ k ∧ O k) : Po w0 w' b L O := by
  obtain ⟨p, e, q1, q2, q3, q4⟩ := h
  exact ⟨p, e, q1.keep f (fun k hk hS => (q2 k hk).2 (hs k hS).2), q2, fun k hk => Nat.lt_of_lt_of_le (q3 k hk) f.size, fr_new q4 f (fun k hk => (hs k hk).1)⟩
theorem Po.keep0 (h : Po w0 w b L O) (f : Fr none' w w') : Po w0 w' b L O := h.keep f (fun _ h => h.elim)
theorem Po.more {O' : Nat → Prop} (h : Po w0 w b L O) (f : Fr none' w w') (ho : ∀ k, O' k → (O k ∨ w.heap.size ≤ k) ∧ k < w'.heap.size) : Po w0 w' b L O' := by
  obtain ⟨p, e, q1, q2, q3, q4⟩ := h
  refine ⟨p, e, q1.keep0 f, fun k hk => ⟨(q2 k hk).1, fun h' => ?_⟩, fun k hk => (ho k hk).2, q4.trans f⟩
  rcases (ho k h').1 with h1 | h1
  · exact (q2 k hk).2 h1
  · have := q1.lt k hk; omega

theorem pnew (w : World) : Calls Try.prog 10 #[] w fun e w' => ∃ b, e = .returned (.pointer (some ⟨b, 0, none⟩)) ∧ Po w w' b [] (fun _ => False) := by
  refine (unew_any w).mono ?_
  rintro e w' ⟨p, rfl, h, f, hs⟩
  exact ⟨p.b, rfl, p, rfl, h, fun k hk => ⟨hs k hk, fun h => h⟩, fun _ h => h.elim, f⟩
theorem padd (h : Po w0 w b L O) (x : Rg) (hx : I64 x.f) : Calls Try.prog 20 #[.pointer (some ⟨b, 0, none⟩), rgV x] w fun e w' => e = .returned (.int .i64 (addE L x)) ∧ Po w0 w' b (addS L x) O ∧ FrO w0 O w w' := by
  obtain ⟨p, rfl, q1, q2, q3, q4⟩ := h
  exact (add_any w p L q1 x hx).mono fun _ _ ⟨h1, h2⟩ => ⟨h1, po_chg q2 q3 q4 h2⟩
theorem pdrop (h : Po w0 w b L O) (k : Int) (hk : I64 k) : Calls Try.prog 27 #[.pointer (some ⟨b, 0, none⟩), .int .i64 k] w fun e w' => e = .returned (.int .i64 (drE L k)) ∧ Po w0 w' b (del L k) O ∧ FrO w0 O w w' := by
  obtain ⟨p, rfl, q1, q2, q3, q4⟩ := h
  exact (drop_any w p L q1 k hk).mono fun _ _ ⟨h1, h2⟩ => ⟨h1, po_chg q2 q3 q4 h2⟩
theorem pget (h : Po w0 w b L O) (k : Int) (hk : I64 k) : Calls Try.prog 22 #[.pointer (some ⟨b, 0, none⟩), .int .i64 k] w fun e w' => e = .returned (.tuple #[rgV (getC L k), .int .i64 (getE L k)]) ∧ Fr none' w w' := by
  obtain ⟨p, rfl, q1, q2, q3, q4⟩ := h
  exact get_any w p L q1 k hk
theorem proom (h : Po w0 w b L O) (f k n c : Int) (hk : I64 f) : Calls Try.prog 25 #[.pointer (some ⟨b, 0, none⟩), .int .i64 f, .int .i64 k, .int .i64 n, .int .i64 c] w fun e w' => e = .returned (.tuple #[.int .i64 (rooV L f k n c), .int .i64 (rooE L f k n c)]) ∧ Fr none' w w' := by
  obtain ⟨p, rfl, q1, q2, q3, q4⟩ := h
  exact room_any w p L q1 f k n c hk
theorem pcarve (h : Po w0 w b L O) (f k n c : Int) (hk : I64 f) : Calls Try.prog 21 #[.pointer (some ⟨b, 0, none⟩), .int .i64 f, .int .i64 k, .int .i64 n, .int .i64 c] w fun e w' => e = .returned (.tuple #[.int .i64 (rooV L f k n c), .int .i64 (rooE L f k n c)]) ∧ Po w0 w' b (carS L f k n c) O ∧ FrO w0 O w w' := by
  obtain ⟨p, rfl, q1, q2, q3, q4⟩ := h
  exact (carve_any w p L q1 f k n c hk).mono fun _ _ ⟨h1, h2⟩ => ⟨h1, po_chg q2 q3 q4 h2⟩
theorem prst (h : Po w0 w b L O) (k : Int) (hk : I64 k) (ub pm bm nf : Nat) (bs : List UInt8) (u : Int) (hu : I64 u) (rr : IsRam w pm bm nf bs) (ru : Row w ub #[.int .i64 u] 3) (ou : O ub ∧ w0.heap.size ≤ ub) (ob : O bm ∧ w0.heap.size ≤ bm) :
    Calls Try.prog 24 #[.pointer (some ⟨b, 0, none⟩), .pointer (some ⟨pm, 0, none⟩), .int .i64 k, .pointer (some ⟨ub, 0, none⟩)] w fun e w' => e = .returned (.int .i64 (rstE L k u)) ∧ Po w0 w' b (rstS L k u) O ∧ Row w' ub #[.int .i64 (rstU L k u)] 3 ∧ IsRam w' pm bm nf (rstB L k u nf bs) ∧ Fr (fun q => (w0.heap.size ≤ q ∧ ¬ O q) ∨ q = ub ∨ q = bm) w w' := by
  obtain ⟨p, rfl, q1, q2, q3, q4⟩ := h
  refine (reset_any w p L q1 k hk ub pm bm nf bs u hu rr ru).mono ?_
  rintro e w' ⟨rfl, a1, a2, a3, a4⟩
  refine ⟨rfl, ⟨p, rfl, a1, fun j hj => q2 j (s_rst hj), fun j hj => Nat.lt_of_lt_of_le (q3 j hj) a4.size, fr_new q4 a4 ?_⟩, a2, a3, a4.mono (fun j _ hj => ?_)⟩
  · rintro j (hj | rfl | rfl)
    · exact (q2 j hj).1
    · exact ou.2
    · exact ob.2
  · rcases hj with hj | hj
    · exact Or.inl (q2 j hj)
    · exact Or.inr hj
end

end Go.Proofs.Ytcmhndkbcfpbbaa
