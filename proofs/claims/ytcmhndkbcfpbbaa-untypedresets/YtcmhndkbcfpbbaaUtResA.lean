/-
  For the law UntypedResets: frames of a memory of which some were cleared; a pool beside a memory; bytes that came in. No statement is proved here.
-/
import Derived.Test.YtcmhndkbcfpbbaaUtFulW
namespace Go.Proofs.Ytcmhndkbcfpbbaa
open Go.ChangeShapes Go.WideShapes Go.ChangeAt Go.RowKit Go.Deep

/-! ### frames cleared -/
theorem frameOf_get? (bs : List UInt8) (i j : Nat) (hj : j < 64) : (frameOf bs i)[j]? = bs[i * 64 + j]? := by
  unfold frameOf
  rw [List.getElem?_take, if_pos hj, List.getElem?_drop]
theorem frame_clear {bs : List UInt8} {nf : Nat} (hl : bs.length = 64 * nf) (n : Int) (i : Nat) (hi : i < nf) : frameOf (clearB bs n nf) i = if n = (i : Int) then List.replicate 64 0 else frameOf bs i := by
  have hlen := length_clearB bs n nf
  refine List.ext_getElem? fun j => ?_
  by_cases hj : j < 64
  · rw [frameOf_get? _ _ _ hj]
    unfold clearB
    by_cases hn : 0 ≤ n ∧ n < (nf : Int)
    · rw [if_pos hn, putAt_get? _ _ _ (by simp; omega)]
      by_cases e : n = (i : Int)
      · rw [if_pos e, if_pos (by simp; omega)]
        rw [List.getElem?_replicate, List.getElem?_replicate, if_pos (by omega), if_pos hj]
      · rw [if_neg e, if_neg (by simp; omega), frameOf_get? _ _ _ hj]
    · rw [if_neg hn, if_neg (by omega), frameOf_get? _ _ _ hj]
  · have e1 : (frameOf (clearB bs n nf) i).length = 64 := length_frameOf _ i nf (by rw [hlen]; exact hl) hi
    have e2 : (frameOf bs i).length = 64 := length_frameOf _ i nf hl hi
    rw [List.getElem?_eq_none (by omega)]
    split
    · rw [List.getElem?_eq_none (by simp; omega)]
    · rw [List.getElem?_eq_none (by omega)]
theorem frame_clr {bs : List UInt8} {nf : Nat} (hl : bs.length = 64 * nf) (d : Bool) (top : Int) (i : Nat) (hi : i < nf) (j : Nat) : frameOf (clrN nf d top bs j) i = if d = false ∧ top - j ≤ (i : Int) ∧ (i : Int) < top then List.replicate 64 0 else frameOf bs i := by
  induction j with
  | zero =>
    rw [if_neg (by omega)]
    rfl
  | succ j ih =>
    unfold clrN
    cases d with
    | true =>
      rw [if_pos rfl, ih, if_neg (by simp), if_neg (by simp)]
    | false =>
      rw [if_neg (by decide), frame_clear (by rw [length_clrN]; exact hl) _ i hi, ih]
      by_cases e : top - ((j : Int) + 1) = (i : Int)
      · rw [if_pos e, if_pos ⟨rfl, by omega, by omega⟩]
      · rw [if_neg e]
        by_cases h : top - (j : Int) ≤ (i : Int) ∧ (i : Int) < top
        · rw [if_pos ⟨rfl, h⟩, if_pos ⟨rfl, by omega, h.2⟩]
        · rw [if_neg (fun q => h q.2), if_neg (fun q => h ⟨by omega, q.2.2⟩)]
theorem clrN_add (nf : Nat) (d : Bool) (top : Int) (bs : List UInt8) (j k : Nat) : clrN nf d (top - j) (clrN nf d top bs j) k = clrN nf d top bs (j + k) := by
  induction k with
  | zero => rfl
  | succ k ih =>
    rw [← Nat.add_assoc]
    show (if d = true then _ else _) = (if d = true then _ else _)
    rw [ih, show top - (j : Int) - ((k : Int) + 1) = top - (((j + k : Nat) : Int) + 1) by omega]

/-! ### bytes that came in -/
def Bys (w : World) (a0 : Option Addr) (len : Nat) (A : Nat → UInt8) : Prop := ∀ k, k < len → ∃ b o, a0 = some ⟨b, o, none⟩ ∧ w.cell? ⟨b, o + k, none⟩ = some (U8 (A k))
theorem Bys.keep {w w' : World} {a0 : Option Addr} {len : Nat} {A : Nat → UInt8} (h : Bys w a0 len A) (f : Fr none' w w') : Bys w' a0 len A := fun k hk => by
  obtain ⟨b, o, e, hc⟩ := h k hk
  exact ⟨b, o, e, cell_keep f hc (fun h => h)⟩
theorem cells_u8 : Try.prog.cellsOf 5 = 1 := by kernel_rfl
set_option maxRecDepth 100000 in
theorem bys_open {H : Type} {enc : TypeId × Value → H} {W : World} {fuel : Nat} {a0 : Option Addr} {len cap : Nat} {y : DataW H × List MemPlace} (hf : DataW.trod enc Try.prog W 0 (fun _ => true) true fuel 43 [.slice a0 len cap] = some y) :
    len ≤ 9223372036854775807 ∧ ∃ A, Bys W a0 len A := by
  rcases open_slice Try.underlying43 hf with ⟨hcs, _⟩ | ⟨a, l, c, m, n, D, Pl, hcs, _, hl, hm, hmm, hx, hel⟩
  · simp only [List.cons.injEq, Value.slice.injEq, and_true] at hcs
    obtain ⟨rfl, rfl, rfl⟩ := hcs
    exact ⟨by omega, fun _ => 0, fun k hk => by omega⟩
  · simp only [List.cons.injEq, Value.slice.injEq, and_true] at hcs
    obtain ⟨rfl, rfl, rfl⟩ := hcs
    have hmm' : m = cap := by simpa using hmm
    subst hmm'
    refine ⟨by simp only [maxLen] at hm; omega, ?_⟩
    by_cases hz : len = 0
    · exact ⟨fun _ => 0, fun k hk => by omega⟩
    rw [cells_u8] at hel
    obtain ⟨b, o, spot⟩ := a
    have hspot : spot = none := by
      obtain ⟨cs', h1, _⟩ := hel 0 (by omega)
      obtain ⟨_, hlen, hc⟩ := World.cells?_some h1
      have := hc 0 (by omega)
      rw [List.getElem?_eq_getElem (by omega)] at this
      simpa [Addr.add] using World.cell?_spot this
    subst hspot
    have h' : ∀ k, ∃ x : UInt8, k < len → W.cell? ⟨b, o + k, none⟩ = some (U8 x) := fun k => by
      by_cases hk : k < len
      · obtain ⟨cs', h1, h2⟩ := hel k (by omega)
        obtain ⟨_, hlen, hc⟩ := World.cells?_some h1
        have h0 := hc 0 (by omega)
        rw [add_lit', add_lit'] at h0
        match cs', hlen with
        | [c0], _ =>
          obtain ⟨v, e, _, u⟩ := DataW.trod_int Try.underlying5 h2
          simp only [List.cons.injEq, and_true] at e
          have hb : 0 ≤ v ∧ v ≤ 255 := by
            have g1 : IntKind.u8.min = 0 := rfl
            have g2 : IntKind.u8.max = 255 := rfl
            simp only [Lit.wf, g1, g2, Bool.and_eq_true, decide_eq_true_eq] at u
            exact u
          refine ⟨UInt8.ofNat v.toNat, fun _ => ?_⟩
          rw [U8_ofNat]
          rw [show o + k * 1 + 0 = o + k by omega] at h0
          rw [h0, e]
          simp
          omega
      · exact ⟨0, fun h => absurd h hk⟩
    exact ⟨fun k => Classical.choose (h' k), fun k hk => ⟨b, o, rfl, Classical.choose_spec (h' k) hk⟩⟩

/-! ### a pool beside a memory -/
structure RsS (w0 w : World) (b pm bm : Nat) (L : List Rg) (bs : List UInt8) : Prop where
  po : Po w0 w b L (fun _ => False)
  ram : IsRam w pm bm 32 bs
  lo : w0.heap.size ≤ bm
/-- What is of other types stays. -/
def Kt (w w' : World) : Prop := ∀ k cs t, Row w k cs t → t ≠ 66 → t ≠ 39 → t ≠ 3 → t ≠ 85 → Row w' k cs t
def OT (w : World) : Nat → Prop := fun k => ∃ cs t, Row w k cs t ∧ t ≠ 66 ∧ t ≠ 39
theorem Po.types {w0 w : World} {b : Nat} {L : List Rg} {O : Nat → Prop} (h : Po w0 w b L O) : Po w0 w b L (OT w) := by
  obtain ⟨p, e, q1, q2, q3, q4⟩ := h
  refine ⟨p, e, q1, fun k hk => ⟨(q2 k hk).1, fun ⟨cs, t, r, h1, h2⟩ => q1.off r h1 h2 k hk rfl⟩, fun k ⟨cs, t, r, _⟩ => r.lt, q4⟩
theorem Po.less {w0 w : World} {b : Nat} {L : List Rg} {O : Nat → Prop} (h : Po w0 w b L O) : Po w0 w b L (fun _ => False) := by
  obtain ⟨p, e, q1, q2, q3, q4⟩ := h
  exact ⟨p, e, q1, fun k hk => ⟨(q2 k hk).1, fun h => h⟩, fun _ h => h.elim, q4⟩

section
variable {w0 w w' : World} {b pm bm : Nat} {L : List Rg} {bs : List UInt8}
theorem RsS.keep0 (h : RsS w0 w b pm bm L bs) (f : Fr none' w w') : RsS w0 w' b pm bm L bs := ⟨h.po.keep0 f, h.ram.keep f (fun h => h) (fun h => h), h.lo⟩
theorem RsS.store (h : RsS w0 w b pm bm L bs) (a : Int) (ha : a ≤ 9223372036854775807) (v : Nat) (hv : v < 4294967296) : Calls Try.prog 23 #[.pointer (some ⟨pm, 0, none⟩), .int .i64 a, .int .i64 1, .int .u32 (v : Int)] w fun e w' => (∃ x : Int, e = .returned (.int .i64 x)) ∧ ∃ bs', RsS w0 w' b pm bm L bs' := by
  refine (store_any w pm bm 32 bs a 1 v h.ram ha hv).mono ?_
  rintro e w' ⟨rfl, f, r⟩
  exact ⟨⟨_, rfl⟩, _, (h.po.types.keep f (fun k hk => by obtain rfl : k = bm := hk; exact ⟨h.lo, _, _, h.ram.row, by decide, by decide⟩)).less, r, h.lo⟩
theorem RsS.frame (h : RsS w0 w b pm bm L bs) (i : Nat) (hi : i < 32) : Calls Try.prog 15 #[.pointer (some ⟨pm, 0, none⟩), .int .i64 (i : Int)] w fun e w' => e = .returned (.tuple #[.slice (some ⟨w.heap.size, 0, none⟩) 64 64, .int .i64 0]) ∧ RsS w0 w' b pm bm L bs ∧ Row w' w.heap.size (byteVals (frameOf bs i)) 5 ∧ Fr none' w w' :=
  (frame_ok w pm bm 32 bs i h.ram hi).mono fun _ _ ⟨h1, h2, h3⟩ => ⟨h1, h.keep0 h2, h3, h2⟩
theorem RsS.reset (h : RsS w0 w b pm bm L bs) (k u : Int) (hk : I64 k) (hu : I64 u) (ub : Nat) (ru : Row w ub #[.int .i64 u] 3) (lu : w0.heap.size ≤ ub) : Calls Try.prog 24 #[.pointer (some ⟨b, 0, none⟩), .pointer (some ⟨pm, 0, none⟩), .int .i64 k, .pointer (some ⟨ub, 0, none⟩)] w fun e w' => e = .returned (.int .i64 (rstE L k u)) ∧ RsS w0 w' b pm bm (rstS L k u) (rstB L k u 32 bs) ∧ Row w' ub #[.int .i64 (rstU L k u)] 3 ∧ Kt w w' := by
  refine (prst h.po.types k hk ub pm bm 32 bs u hu h.ram ru ⟨⟨_, _, ru, by decide, by decide⟩, lu⟩ ⟨⟨_, _, h.ram.row, by decide, by decide⟩, h.lo⟩).mono ?_
  rintro e w' ⟨rfl, P, u', r', f⟩
  refine ⟨rfl, ⟨P.less, r', h.lo⟩, u', fun q cs t hr h1 h2 h3 h4 => hr.keep f ?_⟩
  rintro (⟨_, n⟩ | rfl | rfl)
  · exact n ⟨cs, t, hr, h1, h2⟩
  · exact row_ne hr ru h3 rfl
  · exact row_ne hr h.ram.row h4 rfl
end
theorem RsS.put {w0 w : World} {b pm bm : Nat} {L : List Rg} {bs : List UInt8} (h : RsS w0 w b pm bm L bs) {g : Nat} {cs : Array Value} {t : TypeId} (r : Row w g cs t) (h1 : t ≠ 66) (h2 : t ≠ 39) (h3 : t ≠ 69) (h4 : t ≠ 85) (lo : w0.heap.size ≤ g) (i : Nat) (v : Value) : RsS w0 (w.setCell ⟨g, i, none⟩ v) b pm bm L bs := by
  have f : Fr (at' g) w (w.setCell ⟨g, i, none⟩ v) := fr_set _ _ _ _ (Fr.refl _ _)
  exact ⟨(h.po.types.keep f (fun k hk => by obtain rfl : k = g := hk; exact ⟨lo, _, _, r, h1, h2⟩)).less, h.ram.keep f (fun e => row_ne h.ram.head r (fun e => h3 e.symm) e) (fun e => row_ne h.ram.row r (fun e => h4 e.symm) e), h.lo⟩
theorem Kt.of_fr {w w' : World} (f : Fr none' w w') : Kt w w' := fun _ _ _ h _ _ _ _ => h.keep f (fun h => h)
theorem Kt.trans {w w1 w2 : World} (h : Kt w w1) (k : Kt w1 w2) : Kt w w2 := fun q cs t hr h1 h2 h3 h4 => k q cs t (h q cs t hr h1 h2 h3 h4) h1 h2 h3 h4

/-- The frames that were told before: an array of slices, n of them laid. -/
def Bf (w : World) (gb n : Nat) (bs : List UInt8) : Prop := ∃ cs : Array Value, Row w gb cs 58 ∧ cs.size = 32 ∧ ∀ i, i < n → ∃ g, cs[i]? = some (.slice (some ⟨g, 0, none⟩) 64 64) ∧ Row w g (byteVals (frameOf bs i)) 5
theorem Bf.keep {w w' : World} {gb n : Nat} {bs : List UInt8} (h : Bf w gb n bs) (k : Kt w w') : Bf w' gb n bs := by
  obtain ⟨cs, r, hs, hi⟩ := h
  refine ⟨cs, k _ _ _ r (by decide) (by decide) (by decide) (by decide), hs, fun i hn => ?_⟩
  obtain ⟨g, e, q⟩ := hi i hn
  exact ⟨g, e, k _ _ _ q (by decide) (by decide) (by decide) (by decide)⟩
theorem Bf.keep0 {w w' : World} {gb n : Nat} {bs : List UInt8} (h : Bf w gb n bs) (f : Fr none' w w') : Bf w' gb n bs := h.keep (Kt.of_fr f)
theorem Bf.next {w : World} {gb n g : Nat} {bs : List UInt8} (h : Bf w gb n bs) (hn : n < 32) (r : Row w g (byteVals (frameOf bs n)) 5) : Bf (w.setCell ⟨gb, n, none⟩ (.slice (some ⟨g, 0, none⟩) 64 64)) gb (n + 1) bs := by
  obtain ⟨cs, q, hs, hi⟩ := h
  have f : Fr (at' gb) w (w.setCell ⟨gb, n, none⟩ (.slice (some ⟨g, 0, none⟩) 64 64)) := fr_set _ _ _ _ (Fr.refl _ _)
  refine ⟨_, q.setCell n _, by simpa using hs, fun i hi' => ?_⟩
  by_cases e : i = n
  · subst e
    exact ⟨g, by simp [hs, hn], r.keep f (fun e => row_ne r q (by decide) e)⟩
  · obtain ⟨g', e1, r1⟩ := hi i (by omega)
    refine ⟨g', ?_, r1.keep f (fun e => row_ne r1 q (by decide) e)⟩
    rw [Array.getElem?_setIfInBounds, if_neg (by omega)]
    exact e1

end Go.Proofs.Ytcmhndkbcfpbbaa
