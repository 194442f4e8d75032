/-
  The contracts of package iommu's New, record, Records, Take over the translation. No statement is proved here.
-/
import Derived.Test.YthmombgogmgobaaIoFlush
import Derived.Test.YthmombgogmgobaaWalkProg
import Derived.Deep.RegionLaw
import Derived.Deep.CutBlock
namespace Go.Proofs.Ythmombgogmgobaa
open Go.RowKit

theorem io_ret {fn : Func} {R : Ending → World → Prop} {a : Act} {w : World} (hd : a.defers = []) (hr : fn.results = #[]) (h : ∀ v, R (.returned v) w) : bodyPost Try.prog fn R .ret a w :=
  ⟨hd, .tuple #[], by simp [results, hr], h _⟩

set_option maxHeartbeats 1000000 in
theorem record_full (w : World) (b m : Nat) (v : Value) (S : Io) (x : Rc) (h : IoAt w b m v S) (hn : S.re.length = 8) :
    Calls Try.prog 49 #[.pointer (some ⟨b, 0, none⟩), .agg #[.int .i64 x.s, .int .i64 x.p, .int .i64 x.k, .bool x.wr]] w fun e w' => (∃ y, e = .returned y) ∧ ChgI w b (ioO b m v) { S with lo := wrap64 (S.lo + 1) } w' := by
  have h1 := h.alloc (.cells #[.int .i64 x.s, .int .i64 x.p, .int .i64 x.k, .bool x.wr] 58)
  have f1 := (Fr.refl (ioO b m v) w).alloc (.cells #[.int .i64 x.s, .int .i64 x.p, .int .i64 x.k, .bool x.wr] 58)
  obtain ⟨a, cap, hv⟩ := h.re.form
  rw [hn] at hv
  obtain ⟨c0, c1, c2⟩ := h1.cells
  have g0 := h1.frozen 18
  have h2 := h1.setLo (wrap64 (S.lo + 1))
  have HI : Hid (ChgI w b (ioO b m v) { S with lo := wrap64 (S.lo + 1) } ((w.alloc (.cells #[.int .i64 x.s, .int .i64 x.p, .int .i64 x.k, .bool x.wr] 58)).setCell ⟨b, 18, none⟩ (.int .i64 (wrap64 (S.lo + 1))))) :=
    ChgI.at (f1.setCell (p := ⟨b, 18, none⟩) (Or.inr (Or.inl rfl)) _) h2
  rw [hv] at c1
  clear h2 f1 h1 h c0 hn
  go_enter Try.func49, Try.ntmps49
  go_wp2_with fail
  refine io_ret rfl rfl (fun y => ?_)
  exact ⟨⟨y, rfl⟩, HI.out⟩

theorem io_frozen_keep {S : Nat → Prop} {w w' : World} {b i : Nat} (f : Fr S w w') (h : w.frozen? ⟨b, i, none⟩ = false) (hb : b < w.heap.size) (hs : ¬ S b) : w'.frozen? ⟨b, i, none⟩ = false := by
  rw [World.frozen?_of_block (w := w) (f.block b hb hs)]; exact h

/-- The records' slice turned, laid into the struct. -/
theorem chg_slice {w W w' : World} {b m : Nat} {v : Value} {S : Io} {g' o' n' cap' : Nat} {l : List Rc} (f0 : Fr none' w W) (h : IoAt W b m v S) (hf : Fr (fun k => some k = v.ownBlock) W w') (hr : RcS w' (.slice (some ⟨g', o', none⟩) n' cap') l) (hl : l.length ≤ 8) (ho : v.ownBlock = some g' ∨ g' = W.heap.size) :
    ChgI w b (ioO b m v) { S with re := l } (w'.setCell ⟨b, 17, none⟩ (.slice (some ⟨g', o', none⟩) n' cap')) := by
  have h' := h.setRe hf hr hl (by rcases ho with ho | ho; exact Or.inl (by rw [ho]; rfl); exact Or.inr (fun g hg => by have e : g = g' := (by simpa [Value.ownBlock] using hg); omega))
  refine ⟨((f0.mono (fun _ _ h => h.elim)).trans (hf.mono (fun k _ e => (Or.inr (Or.inr e) : ioO b m v k)))).setCell (p := ⟨b, 17, none⟩) (Or.inr (Or.inl rfl)) _, _, ⟨m, _, h', rfl⟩, fun k hk => ?_⟩
  rcases hk with hk | hk | hk
  · exact Or.inl (Or.inl hk)
  · exact Or.inl (Or.inr (Or.inl hk))
  · have e : k = g' := by simpa [Value.ownBlock] using hk
    subst e
    rcases ho with ho | ho
    · exact Or.inl (Or.inr (Or.inr ho.symm))
    · exact Or.inr (by rw [ho]; exact f0.size)

set_option maxHeartbeats 2000000 in
theorem record_room (w : World) (b m : Nat) (v : Value) (S : Io) (x : Rc) (h : IoAt w b m v S) (hn : S.re.length < 8) :
    Calls Try.prog 49 #[.pointer (some ⟨b, 0, none⟩), .agg #[.int .i64 x.s, .int .i64 x.p, .int .i64 x.k, .bool x.wr]] w fun e w' => (∃ y, e = .returned y) ∧ ChgI w b (ioO b m v) { S with re := S.re ++ [x] } w' := by
  have h1 := h.alloc (.cells #[.int .i64 x.s, .int .i64 x.p, .int .i64 x.k, .bool x.wr] 58)
  have r1 := row_alloc w #[.int .i64 x.s, .int .i64 x.p, .int .i64 x.k, .bool x.wr] 58
  have f1 := (Fr.refl none' w).alloc (.cells #[.int .i64 x.s, .int .i64 x.p, .int .i64 x.k, .bool x.wr] 58)
  obtain ⟨a, cap, hv⟩ := h.re.form
  obtain ⟨n, hnn⟩ : ∃ n, n = S.re.length := ⟨_, rfl⟩
  rw [← hnn] at hv hn
  have t8 : ((n : Int) == 8) = false := by simp; omega
  subst hv
  obtain ⟨c0, c1, c2⟩ := h1.cells
  have HN : Hid (n = S.re.length ∧ n < 8) := ⟨hnn, hn⟩
  clear hnn
  go_enter Try.func49, Try.ntmps49
  go_upto_region 3 with fail
  obtain ⟨v1, hv1⟩ : ∃ v1, v1 = w.alloc (.cells #[.int .i64 x.s, .int .i64 x.p, .int .i64 x.k, .bool x.wr] 58) := ⟨_, rfl⟩
  rw [← hv1] at h1 r1 f1 c0 c1 c2 ⊢
  have g0 := h1.frozen 17
  have hb := h1.lt b (Or.inl rfl)
  have n2 := h1.n2
  have FA := (Fr.refl none' v1).alloc (.cells #[.int .i64 x.s, .int .i64 x.p, .int .i64 x.k, .bool x.wr] 58)
  have HRe : Hid (RcS ((v1.alloc (.cells #[.int .i64 x.s, .int .i64 x.p, .int .i64 x.k, .bool x.wr] 58)).drew) (.slice a n cap) S.re) := h1.re.keep FA.drew (fun _ _ h => h)
  have HB : Hid (Row ((v1.alloc (.cells #[.int .i64 x.s, .int .i64 x.p, .int .i64 x.k, .bool x.wr] 58)).drew) v1.heap.size #[.int .i64 x.s, .int .i64 x.p, .int .i64 x.k, .bool x.wr] 58) := (row_alloc v1 _ _).drew
  have HC : Hid (((v1.alloc (.cells #[.int .i64 x.s, .int .i64 x.p, .int .i64 x.k, .bool x.wr] 58)).drew).cell? ⟨b, 17, none⟩ = some (.slice a n cap)) := cell_keep FA.drew c1 (fun h => h)
  have HZ : Hid (((v1.alloc (.cells #[.int .i64 x.s, .int .i64 x.p, .int .i64 x.k, .bool x.wr] 58)).drew).frozen? ⟨b, 17, none⟩ = false) := io_frozen_keep FA.drew g0 hb (fun h => h)
  have HBL : Hid (b < ((v1.alloc (.cells #[.int .i64 x.s, .int .i64 x.p, .int .i64 x.k, .bool x.wr] 58)).drew).heap.size) := (show _ < _ from Nat.lt_of_lt_of_le hb FA.drew.size)
  have HH : Hid (IoAt v1 b m (.slice a n cap) S ∧ Fr none' w v1) := ⟨h1, f1⟩
  have HN2 : Hid (some b ≠ (Value.slice a n cap).ownBlock) := n2
  obtain ⟨d0, d1, d2, d3⟩ := row4 r1
  have c1' := cell_keep FA c1 (fun h => h)
  clear h1 f1 h c0 c2 hn hv1 r1 hb n2 t8 FA g0
  go_region_law (refine step_append_rc rfl (.tmp 21) (.tmp 23) rfl (.slice a n cap) S.re (by simp [Act.eval]) HRe.out (by have := HN.out; omega) x v1.heap.size (by simp [Act.eval]) HB.out ?_; intro g' o' cap' w' hr hf ho; have e1 := cell_keep hf HC.out HN2.out; have e2 := io_frozen_keep hf HZ.out HBL.out HN2.out)
  all_goals
    refine io_void rfl rfl (fun y => ?_)
    have FA := ((Fr.refl none' v1).alloc (.cells #[.int .i64 x.s, .int .i64 x.p, .int .i64 x.k, .bool x.wr] 58)).drew
    exact ⟨⟨y, rfl⟩, chg_slice (HH.out.2.trans FA) (HH.out.1.keep0 FA) hf hr (by have := HN.out; simp; omega) ho⟩

theorem record_at (w : World) (b m : Nat) (v : Value) (S : Io) (x : Rc) (h : IoAt w b m v S) :
    Calls Try.prog 49 #[.pointer (some ⟨b, 0, none⟩), .agg #[.int .i64 x.s, .int .i64 x.p, .int .i64 x.k, .bool x.wr]] w fun e w' => (∃ y, e = .returned y) ∧ ChgI w b (ioO b m v) (recS S x) w' := by
  unfold recS
  by_cases hn : S.re.length = 8
  · rw [if_pos hn]; exact record_full w b m v S x h hn
  · rw [if_neg hn]; exact record_room w b m v S x h (by have := h.ok.re; omega)

end Go.Proofs.Ythmombgogmgobaa
