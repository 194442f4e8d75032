/-
  The contracts of package iommu's Records, Take, New over the translation. No statement is proved here.
-/
import Derived.Test.YthmombgogmgobaaIoRec
namespace Go.Proofs.Ythmombgogmgobaa
open Go.RowKit

theorem size_rec : (Try.prog.info? 58).map (·.size) = some 4 := by kernel_rfl

theorem RcS.first {w : World} {v : Value} {l : List Rc} (h : RcS w v l) : (Builtin.firstCells 4 l.length v).run Try.prog w = .ok (rcL l).toArray w := by
  rcases h with ⟨rfl, rfl⟩ | ⟨g, o, cap, cur, rfl, hr, h1, h2, h3⟩
  · simp [Builtin.firstCells, rcL]
  · exact run_firstCells_some (P := Try.prog) w 4 l.length ⟨g, o, none⟩ l.length cap (rcL l) (rcL_length l) (fun j u hu => by
      rw [add_lit', hr.cell]
      exact h3 j u hu)

/-- 'copy' of all records into a new row. -/
theorem copy_rc {w : World} {v : Value} {l : List Rc} (h : RcS w v l) (g : Nat) (cur : Array Value) (hg : Row w g cur 58) (hc : cur.size = l.length * 4) :
    ∃ w2, (∀ ty, (Builtin.copy_ #[55, 55] ty #[.slice (.some ⟨g, 0, none⟩) l.length l.length, v]).run Try.prog w = .ok (.int .i64 (l.length : Int)) w2) ∧ RcS w2 (.slice (.some ⟨g, 0, none⟩) l.length l.length) l ∧ Fr (at' g) w w2 := by
  have hsz := size_rec
  cases hq : Try.prog.info? 58 with
  | none => simp [hq] at hsz
  | some i =>
    have hi : i.size = 4 := by simpa [hq] using hsz
    have hf := h.first
    obtain ⟨a, cap, rfl⟩ := h.form
    have hst := run_storeCells_cells (P := Try.prog) g 0 (rcL l) 0 w (fun j hj => by rw [hg.cell]; rw [rcL_length] at hj; simp; omega) (fun j _ => hg.frozen _) (rcL_one l)
    simp only [Nat.add_zero] at hst
    obtain ⟨cur', r1, r2, r3, r4⟩ := setCells_at (rcL l) w g 0 cur _ hg
    refine ⟨w.setCells g 0 (rcL l), fun ty => ?_, Or.inr ⟨g, 0, l.length, cur', rfl, r1, Nat.le_refl _, by rw [r2, hc]; omega, fun j u hu => r4 j u hu ?_⟩, io_frcells g _ w w 0 (Fr.refl _ w)⟩
    · simp [Builtin.copy_, run_underlying Try.underlying55, Builtin.lenOf, sizeOf, typeInfo, hq, hi, hf, hst, goInt]
    · have := (List.getElem?_eq_some_iff.mp hu).1
      rw [rcL_length] at this
      omega

theorem make_rc (n : Nat) (hn : n ≤ 1000) (w : World) : ∃ cur : Array Value, cur.size = n * 4 ∧ (Instr.makeSlice 55 (.int .i64 (n : Int)) (.int .i64 (n : Int))).run Try.prog w = .ok (.slice (.some ⟨w.heap.size, 0, none⟩) n n) (w.alloc (.cells cur 58)) := by
  have hi := info_rec
  cases hq : Try.prog.info? 58 with
  | none => simp [hq] at hi
  | some i =>
    rw [hq] at hi
    simp only [Option.map_some, Option.some.injEq, Prod.mk.injEq] at hi
    obtain ⟨hz, hb, hs⟩ := hi
    have := run_make (P := Try.prog) w 55 58 i _ Try.underlying55 hq hz .i64 .i64 (n : Int) (n : Int) (by omega) (by omega) (by rw [hb]; omega) (by omega)
    exact ⟨_, by rw [size_madeCells, hs]; simp, this⟩

set_option maxHeartbeats 1000000 in
theorem records_any (w : World) (b : Nat) (O : Nat → Prop) (S : Io) (h : IsIo w b O S) :
    Calls Try.prog 17 #[.pointer (some ⟨b, 0, none⟩)] w fun e w' => ∃ g, e = .returned (.slice (some ⟨g, 0, none⟩) S.re.length S.re.length) ∧ w.heap.size ≤ g ∧ Fr none' w w' ∧ RcS w' (.slice (some ⟨g, 0, none⟩) S.re.length S.re.length) S.re := by
  obtain ⟨m, v, h, rfl⟩ := h
  have h8 := h.ok.re
  obtain ⟨cur, hcs, hmk⟩ := make_rc S.re.length (by omega) w
  have r0 := row_alloc w cur 58
  have f0 := (Fr.refl none' w).alloc (.cells cur 58)
  have h1 := h.keep0 f0
  obtain ⟨w2, hcp, hr2, f2⟩ := copy_rc h1.re w.heap.size cur r0 hcs
  obtain ⟨a, cap, hv⟩ := h.re.form
  rw [hv] at hcp
  obtain ⟨c0, c1, c2⟩ := h.cells
  obtain ⟨d0, d1, d2⟩ := h1.cells
  rw [hv] at c1 d1
  have HI : Hid (Fr none' w w2 ∧ RcS w2 (.slice (some ⟨w.heap.size, 0, none⟩) S.re.length S.re.length) S.re) := ⟨f0.newer f2 (Nat.le_refl _), hr2⟩
  clear f2 hr2 h1 f0 r0 hcs h hv h8 c0 c2 d0 d2
  go_enter Try.func17, Try.ntmps17
  go_wp2_with fail
  go_ret
  exact ⟨_, rfl, Nat.le_refl _, HI.out.1, HI.out.2⟩

theorem ret_rb {fn : Func} {p q : Tmp} {tmps : Array Value} {g : Nat} {cs : Array Value} {w : World} (h : fn.results = #[.cell p 58, .tmp q]) (hp : tmps.getD p undef = .pointer (some ⟨g, 0, none⟩)) (hr : Row w g cs 58) (hs : cs.size = 4) :
    (results fn tmps).run Try.prog w = .ok (.tuple #[.agg cs, tmps.getD q undef]) w := by
  have hl : (loadVar 58 ⟨g, 0, none⟩).run Try.prog w = .ok (.agg cs) w := run_loadVar_row w g _ 58 cs (0, 0) _ hr Try.underlying58 rfl (by rw [hs]; exact size_rec)
  have hp' : tmps[p]?.getD undef = .pointer (some ⟨g, 0, none⟩) := by simpa using hp
  simp only [results, h]
  simp [Result.andThen, hp', asAddr, hl]

set_option maxHeartbeats 1000000 in
theorem take_none (w : World) (b m : Nat) (v : Value) (S : Io) (h : IoAt w b m v S) (hn : S.re = []) :
    Calls Try.prog 18 #[.pointer (some ⟨b, 0, none⟩)] w fun e w' => e = .returned (.tuple #[.agg #[.int .i64 0, .int .i64 0, .int .i64 0, .bool false], .bool false]) ∧ Fr none' w w' := by
  have h1 := h.alloc (.cells #[.int .i64 0, .int .i64 0, .int .i64 0, .bool false] 58)
  obtain ⟨a, cap, hv⟩ := h.re.form
  rw [hn] at hv
  obtain ⟨c0, c1, c2⟩ := h1.cells
  rw [hv] at c1
  clear h1 h c0 c2 hn hv
  go_enter Try.func18, Try.ntmps18
  go_wp2_with fail
  refine bodyPost_ret (ret_rb rfl rfl (row_alloc _ _ _) rfl) rfl ?_
  exact ⟨rfl, (Fr.refl _ _).alloc _⟩

theorem row_behind (w : World) (p : Addr) (v : Value) (cs : Array Value) (t : TypeId) (o : Obj) : Row (((w.setCell p v).alloc (.cells cs t)).alloc o) w.heap.size cs t := by
  have h := (row_alloc (w.setCell p v) cs t).alloc o
  have e : (w.setCell p v).heap.size = w.heap.size := by simp [World.setCell]
  rw [e] at h
  exact h

theorem ChgI.more {w w1 w2 : World} {b : Nat} {O : Nat → Prop} {S : Io} (c : ChgI w b O S w1) (f : Fr none' w1 w2) : ChgI w b O S w2 := by
  obtain ⟨g, O', h, k⟩ := c
  exact ⟨g.trans (f.mono (fun _ _ h => h.elim)), O', h.keep0 f, k⟩

set_option maxHeartbeats 2000000 in
theorem take_some (w : World) (b m : Nat) (v : Value) (S : Io) (x : Rc) (l : List Rc) (h : IoAt w b m v S) (hn : S.re = x :: l) :
    Calls Try.prog 18 #[.pointer (some ⟨b, 0, none⟩)] w fun e w' => e = .returned (.tuple #[.agg #[.int .i64 x.s, .int .i64 x.p, .int .i64 x.k, .bool x.wr], .bool true]) ∧ ChgI w b (ioO b m v) { S with re := l } w' := by
  have hre := h.re
  rw [hn] at hre
  obtain ⟨g, o, cap, rfl, hcap⟩ := hre.some
  have htl := hre.tail
  obtain ⟨q0, q1, q2, q3⟩ := hre.cells (k := 0) (x := x) rfl
  simp only [Nat.zero_mul, Nat.add_zero] at q0 q1 q2 q3
  have f1 := (Fr.refl none' w).alloc (.cells #[.int .i64 0, .int .i64 0, .int .i64 0, .bool false] 58)
  have f2 := f1.alloc (.cells #[.int .i64 x.s, .int .i64 x.p, .int .i64 x.k, .bool x.wr] 58)
  obtain ⟨c0, c1, c2⟩ := h.cells
  have d1 := cell_keep f1 c1 (fun h => h)
  have e1 := cell_keep f2 c1 (fun h => h)
  have hb := h.lt b (Or.inl rfl)
  have z1 := io_frozen_keep f2 (h.frozen 17) hb (fun h => h)
  have p0 := cell_keep f1 q0 (fun h => h)
  have p1 := cell_keep f1 q1 (fun h => h)
  have p2 := cell_keep f1 q2 (fun h => h)
  have p3 := cell_keep f1 q3 (fun h => h)
  obtain ⟨n, hnl⟩ : ∃ n, n = l.length := ⟨_, rfl⟩
  rw [← hnl] at d1 e1 hcap htl
  have h8 := h.ok.re
  rw [hn] at h8
  have HC1 : Hid (cap = 1 → ChgI w b (ioO b m (.slice (some ⟨g, o, none⟩) (l.length + 1) cap)) { S with re := l } (w.setCell ⟨b, 17, none⟩ (.slice (some ⟨g, o, none⟩) n (cap - 1)))) := fun hc => by
    rw [if_pos hc] at htl
    exact chg_slice (Fr.refl _ _) h (Fr.refl _ _) htl (by simp at h8; omega) (Or.inl rfl)
  have HC2 : Hid (cap ≠ 1 → ChgI w b (ioO b m (.slice (some ⟨g, o, none⟩) (l.length + 1) cap)) { S with re := l } (w.setCell ⟨b, 17, none⟩ (.slice (some ⟨g, o + 4, none⟩) n (cap - 1)))) := fun hc => by
    rw [if_neg hc] at htl
    exact chg_slice (Fr.refl _ _) h (Fr.refl _ _) htl (by simp at h8; omega) (Or.inl rfl)
  clear h hn hnl c0 c1 c2 q0 q1 q2 q3 hre htl h8 f1 f2
  by_cases hc : cap = 1
  · have hd := HC1.out hc
    subst hc
    obtain rfl : n = 0 := by omega
    have HD : Hid (ChgI w b (ioO b m (.slice (some ⟨g, o, none⟩) (l.length + 1) 1)) { S with re := l } (w.setCell ⟨b, 17, none⟩ (.slice (some ⟨g, o, none⟩) 0 0))) := hd
    clear HC1 HC2 hd
    go_enter Try.func18, Try.ntmps18
    go_wp2_with fail
    refine bodyPost_ret (ret_rb (g := w.heap.size) rfl rfl (row_behind _ _ _ _ _ _) rfl) rfl ?_
    exact ⟨rfl, HD.out.more (((Fr.refl _ _).alloc _).alloc _)⟩
  · have HD : Hid (ChgI w b (ioO b m (.slice (some ⟨g, o, none⟩) (l.length + 1) cap)) { S with re := l } (w.setCell ⟨b, 17, none⟩ (.slice (some ⟨g, o + 4, none⟩) n (cap - 1)))) := HC2.out hc
    clear HC1 HC2
    go_enter Try.func18, Try.ntmps18
    go_wp2_with fail
    refine bodyPost_ret (ret_rb (g := w.heap.size) rfl rfl (row_behind _ _ _ _ _ _) rfl) rfl ?_
    exact ⟨rfl, HD.out.more (((Fr.refl _ _).alloc _).alloc _)⟩

theorem take_any (w : World) (b : Nat) (O : Nat → Prop) (S : Io) (h : IsIo w b O S) :
    Calls Try.prog 18 #[.pointer (some ⟨b, 0, none⟩)] w fun e w' => e = .returned (.tuple #[.agg #[.int .i64 (tkR S).s, .int .i64 (tkR S).p, .int .i64 (tkR S).k, .bool (tkR S).wr], .bool (tkB S)]) ∧ ChgI w b O (tkS S) w' := by
  have h0 := h
  obtain ⟨m, v, h, rfl⟩ := h
  unfold tkR tkB tkS
  cases hn : S.re with
  | nil =>
    refine (take_none w b m v S h hn).mono ?_
    rintro e w' ⟨rfl, f⟩
    refine ⟨rfl, ?_⟩
    have : { S with re := ([] : List Rc).tail } = S := by
      obtain ⟨a, b, c, d⟩ := S
      simp only at hn
      subst hn
      rfl
    rw [this]
    exact ChgI.same h0 f
  | cons x l => exact take_some w b m v S x l h hn

end Go.Proofs.Ythmombgogmgobaa
