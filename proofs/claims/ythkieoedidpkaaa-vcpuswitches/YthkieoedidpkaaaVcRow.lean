/-
  A bank of virtual processors told as what it holds ('IsP'), and what each turn of it leaves. No statement is proved here.
-/
import Derived.Test.YthkieoedidpkaaaVcMap
namespace Go.Proofs.Ythkieoedidpkaaa
open Go.RowKit Go.Maps Go.WideMaps

structure Pp where
  b : Nat
  m : Nat
  B : Int → Nat
  K : Int → Bk
def Pp.s (p : Pp) (S : Vp) : Nat → Prop := fun k => k = p.b ∨ k = p.m ∨ ∃ x ∈ S.L, k = p.B x.id ∨ (p.K x.id).s k
def stC (lrs ld : Int) (m : Nat) (bk : Nat → Int) : Array Value := #[.int .i64 lrs, .map (some m), .int .u32 (bk 0), .int .u32 (bk 1), .int .u32 (bk 2), .int .u32 (bk 3), .int .u32 (bk 4), .int .u32 (bk 5), .int .u32 (bk 6), .int .u32 (bk 7), .int .i64 ld]
def prC (a : Nat → Int) (kb : Nat) (th : Int) : Array Value := #[.int .u32 (a 0), .int .u32 (a 1), .int .u32 (a 2), .int .u32 (a 3), .int .u32 (a 4), .int .u32 (a 5), .int .u32 (a 6), .int .u32 (a 7), pv kb, .int .i64 th]
structure Each (w : World) (p : Pp) (ld : Int) (x : Vc) : Prop where
  row : ∃ a, Row w (p.B x.id) (prC a (p.K x.id).b x.th) 72 ∧ (x.id ≠ ld → a = x.sy)
  vg : IsVg w (p.K x.id) x.vg
structure IsP (w : World) (p : Pp) (S : Vp) : Prop where
  row : Row w p.b (stC S.lrs S.ld p.m (bkF S)) 51
  mp : MP w p.m S.L.length (fun k => (fnd S.L k).map fun _ => p.B k)
  ea : ∀ x ∈ S.L, Each w p S.ld x
  ij : ∀ x ∈ S.L, ∀ y ∈ S.L, p.B x.id = p.B y.id → x.id = y.id
  kk : ∀ x ∈ S.L, ∀ y ∈ S.L, x.id ≠ y.id → ∀ k, (p.K x.id).s k → ¬ (p.K y.id).s k
  km : ∀ x ∈ S.L, ¬ (p.K x.id).s p.m
  good : GoodP S
theorem row_ty {w : World} {b : Nat} {c1 c2 : Array Value} {t1 t2 : TypeId} (r1 : Row w b c1 t1) (r2 : Row w b c2 t2) : t1 = t2 := by
  have r1' : w.heap[b]? = some (.cells c1 t1 (0, 0)) := r1
  have r2' : w.heap[b]? = some (.cells c2 t2 (0, 0)) := r2
  rw [r1'] at r2'
  cases r2'
  rfl
theorem GM.ne {w : World} {b c : Nat} {f : Nat → Option (Int × Bool)} {cs : Array Value} {t : TypeId} (h : GM w b f) (r : Row w c cs t) : b ≠ c := by
  rintro rfl
  obtain ⟨D, ⟨es, clock, hb, _⟩, _⟩ := h
  have r' : w.heap[b]? = some (.cells cs t (0, 0)) := r
  rw [hb] at r'
  cases r'
/-- A block of cells of another type is none of a controller's. -/
theorem IsVg.off {w : World} {B : Bk} {V : Vg} (h : IsVg w B V) {c : Nat} {cs : Array Value} {t : TypeId} (r : Row w c cs t) (ht : t ≠ 85) : ¬ B.s c := by
  rintro (rfl | rfl | rfl)
  · obtain ⟨⟨cs', r', _⟩, _⟩ := h
    exact ht (row_ty r r')
  · exact h.pe.ne r rfl
  · exact h.ac.ne r rfl
section
variable {w w' w1 : World} {p p' : Pp} {S S' : Vp}
theorem Each.keep {T : Nat → Prop} {ld : Int} {x : Vc} (h : Each w p ld x) (f : Fr T w w') (h1 : ¬ T (p.B x.id)) (h2 : ∀ k, (p.K x.id).s k → ¬ T k) : Each w' p ld x := by
  obtain ⟨⟨a, r, e⟩, v⟩ := h
  exact ⟨⟨a, r.keep f h1, e⟩, v.keep f h2⟩
theorem IsP.keep {T : Nat → Prop} (h : IsP w p S) (f : Fr T w w') (hs : ∀ k, p.s S k → ¬ T k) : IsP w' p S :=
  ⟨h.row.keep f (hs _ (Or.inl rfl)), h.mp.keep f (hs _ (Or.inr (Or.inl rfl))), fun x hx => (h.ea x hx).keep f (hs _ (Or.inr (Or.inr ⟨x, hx, Or.inl rfl⟩))) (fun _ hk => hs _ (Or.inr (Or.inr ⟨x, hx, Or.inr hk⟩))), h.ij, h.kk, h.km, h.good⟩
theorem IsP.keep0 (h : IsP w p S) (f : Fr none' w w') : IsP w' p S := h.keep f (fun _ _ h => h)
theorem IsP.lt (h : IsP w p S) (k : Nat) (hk : p.s S k) : k < w.heap.size := by
  rcases hk with rfl | rfl | ⟨x, hx, rfl | hk⟩
  · exact h.row.lt
  · exact h.mp.lt
  · obtain ⟨⟨a, r, _⟩, _⟩ := h.ea x hx
    exact r.lt
  · exact (h.ea x hx).vg.lt k hk
/-- From (w, p, S) to (w', p', S'). -/
structure ChP (w : World) (p : Pp) (S : Vp) (w' : World) (p' : Pp) (S' : Vp) : Prop where
  is : IsP w' p' S'
  fr : Fr (p.s S) w w'
  new : ∀ k, p'.s S' k → p.s S k ∨ w.heap.size ≤ k
  eb : p'.b = p.b
theorem ChP.same (h : IsP w p S) (f : Fr none' w w') : ChP w p S w' p S := ⟨h.keep0 f, f.mono (fun _ _ h => h.elim), fun _ h => Or.inl h, rfl⟩
theorem ChP.trans {p2 : Pp} {S2 : Vp} {w2 : World} (h : ChP w p S w1 p' S') (k : ChP w1 p' S' w2 p2 S2) : ChP w p S w2 p2 S2 := by
  refine ⟨k.is, ⟨k.fr.os.trans h.fr.os, k.fr.tape.trans h.fr.tape, k.fr.output.trans h.fr.output, Nat.le_trans h.fr.size k.fr.size, fun i hi hn => ?_⟩, fun i hi => ?_, k.eb.trans h.eb⟩
  · refine (k.fr.block i (Nat.lt_of_lt_of_le hi h.fr.size) (fun e => ?_)).trans (h.fr.block i hi hn)
    rcases h.new i e with h1 | h1
    · exact hn h1
    · omega
  · rcases k.new i hi with h1 | h1
    · exact h.new i h1
    · have := h.fr.size
      exact Or.inr (by omega)
theorem ChP.after {w2 : World} (h : ChP w p S w1 p' S') (f : Fr none' w1 w2) : ChP w p S w2 p' S' := h.trans (ChP.same h.is f)
theorem ChP.before {w0 : World} (f : Fr none' w0 w) (h0 : IsP w0 p S) (h : ChP w p S w' p' S') : ChP w0 p S w' p' S' := (ChP.same h0 f).trans h

/-! ### who is there -/
theorem IsP.has (h : IsP w p S) {k : Int} {x : Vc} (e : fnd S.L k = some x) : Each w p S.ld x ∧ x.id = k ∧ x ∈ S.L ∧ 0 ≤ k ∧ k ≤ 1023 := by
  obtain ⟨h1, h2, h3, h4⟩ := h.good.pos e
  exact ⟨h.ea x h3, h4, h3, h1, h2⟩
theorem IsP.bne (h : IsP w p S) {x : Vc} (hx : x ∈ S.L) : p.b ≠ p.B x.id ∧ ¬ (p.K x.id).s p.b := by
  obtain ⟨⟨a, r, _⟩, v⟩ := h.ea x hx
  exact ⟨fun e => by rw [← e] at r; exact absurd (row_ty h.row r) (by decide), v.off h.row (by decide)⟩
theorem IsP.Bne (h : IsP w p S) {x y : Vc} (hx : x ∈ S.L) (hy : y ∈ S.L) : ¬ (p.K y.id).s (p.B x.id) := by
  obtain ⟨⟨a, r, _⟩, _⟩ := h.ea x hx
  exact (h.ea y hy).vg.off r (by decide)
theorem IsP.mne (h : IsP w p S) : p.m ≠ p.b ∧ ∀ x ∈ S.L, p.m ≠ p.B x.id := by
  refine ⟨h.mp.ne h.row, fun x hx => ?_⟩
  obtain ⟨⟨a, r, _⟩, _⟩ := h.ea x hx
  exact h.mp.ne r

/-! ### turns -/
theorem upd_ids {L : List Vc} {k : Int} {g : Vc → Vc} (hg : ∀ t, (g t).id = t.id) : ∀ y ∈ upd L k g, ∃ x ∈ L, y.id = x.id ∧ y = if x.id = k then g x else x := fun y hy => by
  obtain ⟨x, hx, rfl⟩ := mem_upd hy
  exact ⟨x, hx, by split; exact hg x; rfl, rfl⟩
theorem fnd_map_upd {L : List Vc} {k : Int} {g : Vc → Vc} (hg : ∀ t, (g t).id = t.id) (B : Int → Nat) : (fun j => (fnd (upd L k g) j).map fun _ => B j) = fun j => (fnd L j).map fun _ => B j := by
  funext j
  rw [fnd_upd hg, Option.map_map]
  rfl
/-- One of them turned, in the struct and in its own block. -/
theorem IsP.turn (h : IsP w p S) {T : Nat → Prop} (f : Fr T w w') {k ld' : Int} {g : Vc → Vc} (hg : ∀ t, (g t).id = t.id) (hT : ∀ j, T j → j = p.b ∨ ((fnd S.L k).isSome = true ∧ j = p.B k)) (hgood : GoodP ⟨upd S.L k g, ld', S.lrs⟩)
    (hr : Row w' p.b (stC S.lrs ld' p.m (bkF ⟨upd S.L k g, ld', S.lrs⟩)) 51) (hk : ∀ x, fnd S.L k = some x → Each w' p ld' (g x)) (hld : ∀ y ∈ S.L, y.id ≠ k → y.id ≠ ld' → y.id ≠ S.ld) : ChP w p S w' p ⟨upd S.L k g, ld', S.lrs⟩ := by
  have hone := h.good.one
  have hTm : ¬ T p.m := fun e => by
    rcases hT _ e with e | ⟨e1, e⟩
    · exact h.mne.1 e
    · obtain ⟨x, hx⟩ := Option.isSome_iff_exists.1 e1
      obtain ⟨_, hid, hin, _⟩ := h.has hx
      exact h.mne.2 x hin (by rw [hid]; exact e)
  have hTo : ∀ y ∈ S.L, y.id ≠ k → ¬ T (p.B y.id) ∧ ∀ j, (p.K y.id).s j → ¬ T j := fun y hy hyk => by
    refine ⟨fun e => ?_, fun j hj e => ?_⟩
    · rcases hT _ e with e | ⟨e1, e⟩
      · exact (h.bne hy).1 e.symm
      · obtain ⟨x, hx⟩ := Option.isSome_iff_exists.1 e1
        obtain ⟨_, hid, hin, _⟩ := h.has hx
        rw [← hid] at e
        exact hyk ((h.ij y hy x hin e).trans hid)
    · rcases hT _ e with e | ⟨e1, e⟩
      · rw [e] at hj
        exact (h.bne hy).2 hj
      · obtain ⟨x, hx⟩ := Option.isSome_iff_exists.1 e1
        obtain ⟨_, hid, hin, _⟩ := h.has hx
        rw [e, ← hid] at hj
        exact h.Bne hin hy hj
  have hfr : Fr (p.s S) w w' := f.mono fun j _ e => by
    rcases hT _ e with e | ⟨e1, e⟩
    · exact Or.inl e
    · obtain ⟨x, hx⟩ := Option.isSome_iff_exists.1 e1
      obtain ⟨_, hid, hin, _⟩ := h.has hx
      exact Or.inr (Or.inr ⟨x, hin, Or.inl (by rw [hid]; exact e)⟩)
  refine ⟨⟨hr, ?_, fun y hy => ?_, fun y hy z hz => ?_, fun y hy z hz => ?_, fun y hy => ?_, hgood⟩, hfr, fun j hj => Or.inl ?_, rfl⟩
  · rw [upd_len, fnd_map_upd hg]
    exact h.mp.keep f hTm
  · obtain ⟨x, hx, e1, e2⟩ := upd_ids hg y hy
    by_cases ek : x.id = k
    · rw [e2, if_pos ek]
      refine hk x ?_
      rw [← ek]
      exact fnd_of_mem hone hx
    · rw [e2, if_neg ek]
      obtain ⟨⟨a, r, ea⟩, v⟩ := h.ea x hx
      obtain ⟨t1, t2⟩ := hTo x hx ek
      exact ⟨⟨a, r.keep f t1, fun e => ea (hld x hx ek e)⟩, v.keep f t2⟩
  · obtain ⟨x, hx, e1, _⟩ := upd_ids hg y hy
    obtain ⟨u, hu, e2, _⟩ := upd_ids hg z hz
    rw [e1, e2]
    exact h.ij x hx u hu
  · obtain ⟨x, hx, e1, _⟩ := upd_ids hg y hy
    obtain ⟨u, hu, e2, _⟩ := upd_ids hg z hz
    rw [e1, e2]
    exact h.kk x hx u hu
  · obtain ⟨x, hx, e1, _⟩ := upd_ids hg y hy
    rw [e1]
    exact h.km x hx
  · rcases hj with e | e | ⟨y, hy, hj⟩
    · exact Or.inl e
    · exact Or.inr (Or.inl e)
    · obtain ⟨x, hx, e1, _⟩ := upd_ids hg y hy
      rw [e1] at hj
      exact Or.inr (Or.inr ⟨x, hx, hj⟩)
/-- One's interrupts turned. -/
theorem IsP.turnV (h : IsP w p S) {k : Int} {x : Vc} (hx : fnd S.L k = some x) {V : Vg} (c : Chg w (p.K k) V w') : ChP w p S w' p { S with L := upd S.L k (setV V) } := by
  obtain ⟨hE, hid, hin, _⟩ := h.has hx
  have f := c.1
  have hT : ∀ j, (p.K k).s j → j ≠ p.b ∧ j ≠ p.m ∧ ∀ y ∈ S.L, j ≠ p.B y.id ∧ (y.id ≠ k → ¬ (p.K y.id).s j) := fun j hj => by
    rw [← hid] at hj
    refine ⟨fun e => ?_, fun e => ?_, fun y hy => ⟨fun e => ?_, fun hyk e => ?_⟩⟩
    · rw [e] at hj; exact (h.bne hin).2 hj
    · rw [e] at hj; exact h.km x hin hj
    · rw [e] at hj; exact h.Bne hy hin hj
    · exact h.kk x hin y hy (fun e2 => hyk (by rw [← e2, hid])) j hj e
  have hbk : bkF { S with L := upd S.L k (setV V) } = bkF S := by
    unfold bkF
    show (match fnd (upd S.L k (setV V)) S.ld with | some x => x.sy | none => fun _ => 0) = _
    rw [fnd_upd (f := setV V) (fun _ => rfl)]
    cases fnd S.L S.ld with
    | none => rfl
    | some y =>
      show (if y.id = k then setV V y else y).sy = y.sy
      split <;> rfl
  refine ⟨⟨?_, ?_, fun y hy => ?_, fun y hy z hz => ?_, fun y hy z hz => ?_, fun y hy => ?_, h.good.upd1 k (fun _ => rfl) (fun _ => rfl)⟩, f.mono fun j _ hj => ?_, fun j hj => Or.inl ?_, rfl⟩
  · rw [hbk]
    exact h.row.keep f (fun e => (hT _ e).1 rfl)
  · rw [upd_len, fnd_map_upd (g := setV V) (fun _ => rfl)]
    exact h.mp.keep f (fun e => (hT _ e).2.1 rfl)
  · obtain ⟨z, hz, e1, e2⟩ := upd_ids (g := setV V) (fun _ => rfl) y hy
    obtain ⟨⟨a, r, ea⟩, v⟩ := h.ea z hz
    have r' := r.keep f (fun e => ((hT _ e).2.2 z hz).1 rfl)
    by_cases ek : z.id = k
    · rw [e2, if_pos ek]
      exact ⟨⟨a, r', ea⟩, by show IsVg w' (p.K z.id) V; rw [ek]; exact c.2⟩
    · rw [e2, if_neg ek]
      exact ⟨⟨a, r', ea⟩, v.keep f (fun j hj e => ((hT _ e).2.2 z hz).2 ek hj)⟩
  · obtain ⟨x, hx, e1, _⟩ := upd_ids (g := setV V) (fun _ => rfl) y hy
    obtain ⟨u, hu, e2, _⟩ := upd_ids (g := setV V) (fun _ => rfl) z hz
    rw [e1, e2]
    exact h.ij x hx u hu
  · obtain ⟨x, hx, e1, _⟩ := upd_ids (g := setV V) (fun _ => rfl) y hy
    obtain ⟨u, hu, e2, _⟩ := upd_ids (g := setV V) (fun _ => rfl) z hz
    rw [e1, e2]
    exact h.kk x hx u hu
  · obtain ⟨x, hx, e1, _⟩ := upd_ids (g := setV V) (fun _ => rfl) y hy
    rw [e1]
    exact h.km x hx
  · rw [← hid] at hj
    exact Or.inr (Or.inr ⟨x, hin, Or.inr hj⟩)
  · rcases hj with e | e | ⟨y, hy, hj⟩
    · exact Or.inl e
    · exact Or.inr (Or.inl e)
    · obtain ⟨x, hx, e1, _⟩ := upd_ids (g := setV V) (fun _ => rfl) y hy
      rw [e1] at hj
      exact Or.inr (Or.inr ⟨x, hx, hj⟩)
end

end Go.Proofs.Ythkieoedidpkaaa
