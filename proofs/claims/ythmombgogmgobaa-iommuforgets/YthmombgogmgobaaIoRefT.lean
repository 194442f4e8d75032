/-
  The contract of the document's Take (package viceroyref10) over the translation. No statement is proved here.
-/
import Derived.Test.YthmombgogmgobaaIoRefF
import Derived.Test.YthmombgogmgobaaIoNew
namespace Go.Proofs.Ythmombgogmgobaa
open Go.RowKit

set_option maxHeartbeats 1000000 in
theorem rtake_none (w : World) (j : Nat) (v : Value) (S : Io) (h : RiAt w j v S) (hn : S.re = []) :
    Calls Try.prog 36 #[.pointer (some ⟨j, 0, none⟩)] w fun e w' => e = .returned (.tuple #[.agg #[.int .i64 0, .int .i64 0, .int .i64 0, .bool false], .bool false]) ∧ Fr none' w w' := by
  have h1 := h.alloc (.cells #[.int .i64 0, .int .i64 0, .int .i64 0, .bool false] 58)
  obtain ⟨a, cap, hv⟩ := h.re.form
  rw [hn] at hv
  obtain ⟨c1, c2⟩ := h1.cells
  rw [hv] at c1
  clear h1 h c2 hn hv
  go_enter Try.func36, Try.ntmps36
  go_wp2_with fail
  refine bodyPost_ret (ret_rb rfl rfl (row_alloc _ _ _) rfl) rfl ?_
  exact ⟨rfl, (Fr.refl _ _).alloc _⟩

theorem rcS_empty (w : World) (B : Nat) (h : Row w B #[] 58) : RcS w (.slice (some ⟨B, 0, none⟩) 0 0) [] :=
  Or.inr ⟨B, 0, 0, #[], rfl, h, Nat.le_refl _, Nat.le_refl _, fun j u hu => by simp [rcL] at hu⟩

set_option maxHeartbeats 2000000 in
theorem rtake_some (w : World) (j : Nat) (v : Value) (S : Io) (x : Rc) (l : List Rc) (h : RiAt w j v S) (hn : S.re = x :: l) :
    Calls Try.prog 36 #[.pointer (some ⟨j, 0, none⟩)] w fun e w' => e = .returned (.tuple #[.agg #[.int .i64 x.s, .int .i64 x.p, .int .i64 x.k, .bool x.wr], .bool true]) ∧ ChgR w j (riO j v) { S with re := l } w' := by
  have hre := h.re
  rw [hn] at hre
  obtain ⟨g, o, cap, rfl, hcap⟩ := hre.some
  have htl := hre.tail
  obtain ⟨q0, q1, q2, q3⟩ := hre.cells (k := 0) (x := x) rfl
  simp only [Nat.zero_mul, Nat.add_zero] at q0 q1 q2 q3
  have f1 := (Fr.refl none' w).alloc (.cells #[.int .i64 0, .int .i64 0, .int .i64 0, .bool false] 58)
  have f2 := f1.alloc (.cells #[.int .i64 x.s, .int .i64 x.p, .int .i64 x.k, .bool x.wr] 58)
  have f3 := f2.alloc (.cells #[] 58)
  obtain ⟨c1, c2⟩ := h.cells
  have d1 := cell_keep f1 c1 (fun h => h)
  have e1 := cell_keep f2 c1 (fun h => h)
  have e2 := cell_keep f3 c1 (fun h => h)
  have hb := h.lt j (Or.inl rfl)
  have p0 := cell_keep f1 q0 (fun h => h)
  have p1 := cell_keep f1 q1 (fun h => h)
  have p2 := cell_keep f1 q2 (fun h => h)
  have p3 := cell_keep f1 q3 (fun h => h)
  obtain ⟨n, hnl⟩ : ∃ n, n = l.length := ⟨_, rfl⟩
  have h8 := h.ok.re
  rw [hn] at h8
  rw [← hnl] at d1 e1 e2 hcap htl
  obtain ⟨o', ho'⟩ : ∃ o', o' = if cap = 1 then o else o + 4 := ⟨_, rfl⟩
  rw [← ho'] at htl
  -- the world at the append
  obtain ⟨W, hW⟩ : ∃ W, W = ((w.alloc (.cells #[.int .i64 0, .int .i64 0, .int .i64 0, .bool false] 58)).alloc (.cells #[.int .i64 x.s, .int .i64 x.p, .int .i64 x.k, .bool x.wr] 58)).alloc (.cells #[] 58) := ⟨_, rfl⟩
  have hsz : W.heap.size = w.heap.size + 3 := by rw [hW]; simp
  have RA : Row W w.heap.size #[.int .i64 0, .int .i64 0, .int .i64 0, .bool false] 58 := by rw [hW]; exact ((row_alloc w _ _).alloc _).alloc _
  have RB : Row W (w.heap.size + 1) #[.int .i64 x.s, .int .i64 x.p, .int .i64 x.k, .bool x.wr] 58 := by rw [hW]; exact (row_alloc1' w _ _ _).alloc _
  have RC : Row W (w.heap.size + 2) #[] 58 := by
    rw [hW]
    have h := row_alloc ((w.alloc (.cells #[.int .i64 0, .int .i64 0, .int .i64 0, .bool false] 58)).alloc (.cells #[.int .i64 x.s, .int .i64 x.p, .int .i64 x.k, .bool x.wr] 58)) #[] 58
    rwa [show ((w.alloc (.cells #[.int .i64 0, .int .i64 0, .int .i64 0, .bool false] 58)).alloc (.cells #[.int .i64 x.s, .int .i64 x.p, .int .i64 x.k, .bool x.wr] 58)).heap.size = w.heap.size + 2 by simp] at h
  have FW : Fr none' w W := by rw [hW]; exact f3
  have HB : Hid (j < w.heap.size ∧ W.heap.size = w.heap.size + 3 ∧ Fr none' w W ∧ RiAt W j (.slice (some ⟨g, o, none⟩) (l.length + 1) cap) S ∧ n = l.length ∧ l.length ≤ 8) := ⟨hb, hsz, FW, h.keep0 FW, hnl, by simp at h8; omega⟩
  have HS : Hid (RcS W (.slice (some ⟨w.heap.size + 2, 0, none⟩) 0 0) []) := rcS_empty W _ RC
  have HU : Hid (RcS W (.slice (some ⟨g, o', none⟩) n (cap - 1)) l) := htl.keep FW (fun _ _ h => h)
  have HA : Hid (Row W w.heap.size #[.int .i64 0, .int .i64 0, .int .i64 0, .bool false] 58) := RA
  have HRB : Hid (Row W (w.heap.size + 1) #[.int .i64 x.s, .int .i64 x.p, .int .i64 x.k, .bool x.wr] 58) := RB
  have ho1 : cap = 1 → o' = o := fun e => by rw [ho', if_pos e]
  have ho2 : cap ≠ 1 → o' = o + 4 := fun e => by rw [ho', if_neg e]
  have HK : Hid (∀ k, riO j (.slice (some ⟨g, o, none⟩) (l.length + 1) cap) k → k < w.heap.size) := fun k hk => h.lt k hk
  have HE : Hid (W.cell? ⟨j, 56, none⟩ = some (.slice (some ⟨g, o, none⟩) (n + 1) cap) ∧ W.frozen? ⟨j, 56, none⟩ = false ∧ j < W.heap.size ∧ ¬ (some j = (Value.slice (some ⟨w.heap.size + 2, 0, none⟩) 0 0).ownBlock)) := ⟨by rw [hW]; exact e2, (h.keep0 FW).frozen 56, by omega, fun e => by have e' : j = w.heap.size + 2 := (by simpa [Value.ownBlock] using e); omega⟩
  have HO : Hid ((cap = 1 → o' = o) ∧ (cap ≠ 1 → o' = o + 4)) := ⟨ho1, ho2⟩
  clear ho1 ho2 ho' hsz RA RB RC FW htl h hn hnl h8 c1 c2 q0 q1 q2 q3 hre f1 f2 f3
  by_cases hc : cap = 1
  · obtain rfl : o' = o := HO.out.1 hc
    subst hc
    obtain rfl : n = 0 := by omega
    have HU' : Hid (RcS W (.slice (some ⟨g, o', none⟩) 0 0) l) := HU.out
    go_enter Try.func36, Try.ntmps36
    go_upto_region 5 with (first | (at_builtin; rw [← hW]; refine wpList_append_rcL rfl (.tmp 19) (.tmp 24) rfl (.slice (some ⟨w.heap.size + 2, 0, none⟩) 0 0) [] l rfl HS.out ?_ g o' 0 0 rfl HU'.out (Or.inl (by simp [Value.ownBlock])) ?_; (have := HB.out; simp; omega); intro g' o'' cap' w' hr hf ho; have y1 := cell_keep hf HE.out.1 HE.out.2.2.2; have y2 := io_frozen_keep hf HE.out.2.1 HE.out.2.2.1 HE.out.2.2.2))
    have HF : Hid (Fr (at' (w.heap.size + 2)) W w' ∧ (g' = w.heap.size + 2 ∨ g' = W.heap.size)) := ⟨hf.mono (fun k _ e => (by simpa [Value.ownBlock] using e : k = w.heap.size + 2)), by rcases ho with ho | ho; exact Or.inl (by simpa [Value.ownBlock] using ho.symm); exact Or.inr ho⟩
    have hr' : RcS w' (.slice (some ⟨g', o'', none⟩) ([].length + l.length) cap') l := hr
    obtain ⟨vv, hvv⟩ : ∃ vv, vv = Value.slice (some ⟨g', o'', none⟩) (([] : List Rc).length + l.length) cap' := ⟨_, rfl⟩
    obtain ⟨W4, hW4⟩ : ∃ W4, W4 = w'.setCell ⟨j, 56, none⟩ (.slice (some ⟨g', o'', none⟩) (([] : List Rc).length + l.length) cap') := ⟨_, rfl⟩
    have FW' : Fr none' w w' := HB.out.2.2.1.newer HF.out.1 (by omega)
    have hg' : w.heap.size + 2 ≤ g' := by have := HF.out.2; have := HB.out.2.1; omega
    have H4 : Hid (RiAt W4 j (.slice (some ⟨g', o'', none⟩) (([] : List Rc).length + l.length) cap') { S with re := l } ∧ Fr (riO j (.slice (some ⟨g, o', none⟩) (l.length + 1) 1)) w W4 ∧ w.heap.size + 2 ≤ g' ∧ j < w.heap.size) := by
      rw [hW4]
      refine ⟨(HB.out.2.2.2.1.keep HF.out.1 (fun k hk e => by have a := HK.out k hk; have b : k = w.heap.size + 2 := e; omega)).setRe (Fr.refl _ _) hr' HB.out.2.2.2.2.2 (fun e => by have a := HB.out.1; have b : j = g' := (by simpa [Value.ownBlock] using e); omega), (FW'.mono (fun _ _ h => h.elim)).setCell (p := ⟨j, 56, none⟩) (Or.inr (Or.inl rfl)) _, hg', HB.out.1⟩
    have F4 : Fr (at' j) w' W4 := by rw [hW4]; exact fr_set _ _ _ _ (Fr.refl _ _)
    have RA4 := (HA.out.keep HF.out.1 (show w.heap.size ≠ w.heap.size + 2 by omega)).keep F4 (show w.heap.size ≠ j by have := HB.out.1; omega)
    have RB4 := (HRB.out.keep HF.out.1 (show w.heap.size + 1 ≠ w.heap.size + 2 by omega)).keep F4 (show w.heap.size + 1 ≠ j by have := HB.out.1; omega)
    simp only [List.length_nil, Nat.zero_add] at hW4
    rw [← hW4]
    clear hW4 hr hr' hf ho F4 FW' y1 y2 hvv hg' d1 e1 e2 p0 p1 p2 p3 HE
    obtain ⟨A, hA⟩ : ∃ A, A = w.heap.size := ⟨_, rfl⟩
    obtain ⟨B, hB⟩ : ∃ B, B = w.heap.size + 1 := ⟨_, rfl⟩
    rw [← hA] at RA4
    rw [← hB] at RB4
    rw [← hB, ← hA]
    have HAB : Hid (A = w.heap.size ∧ B = w.heap.size + 1) := ⟨hA, hB⟩
    clear hA hB hW
    obtain ⟨x0, x1, x2, x3⟩ := row4 RB4
    obtain ⟨y0, y1, y2, y3⟩ := row4 RA4
    obtain ⟨z0, z1, z2, z3⟩ := frozen4 RA4
    go_wp2_with fail
    refine bodyPost_ret (ret_rb (g := A) rfl rfl (RA4.put4 _ _ _ _) rfl) rfl ?_
    refine ⟨rfl, ?_⟩
    have FA : Fr (at' A) W4 (put4 W4 A (.int .i64 x.s) (.int .i64 x.p) (.int .i64 x.k) (.bool x.wr)) := (Fr.refl (at' A) _).put4 (Or.inr (show at' A A from rfl)) _ _ _ _
    have hAB := HAB.out
    have h4 := H4.out
    refine ⟨h4.2.1.newerS FA (by omega), _, ⟨_, h4.1.keep FA (fun k hk e => ?_), rfl⟩, fun k hk => ?_⟩
    · have e' : k = A := e
      rcases hk with hk | hk
      · omega
      · have hk' : k = g' := by simpa [Value.ownBlock] using hk
        omega
    · rcases hk with hk | hk
      · exact Or.inl (Or.inl hk)
      · have hk' : k = g' := by simpa [Value.ownBlock] using hk
        exact Or.inr (by omega)
  · obtain rfl : o' = o + 4 := HO.out.2 hc
    have HU' : Hid (RcS W (.slice (some ⟨g, o + 4, none⟩) n (cap - 1)) l) := HU.out
    go_enter Try.func36, Try.ntmps36
    go_upto_region 5 with (first | (at_builtin; rw [← hW]; refine wpList_append_rcL rfl (.tmp 19) (.tmp 24) rfl (.slice (some ⟨w.heap.size + 2, 0, none⟩) 0 0) [] l rfl HS.out ?_ g (o + 4) n (cap - 1) rfl HU'.out (Or.inl (by simp [Value.ownBlock])) ?_; (have := HB.out; simp; omega); intro g' o'' cap' w' hr hf ho; have y1 := cell_keep hf HE.out.1 HE.out.2.2.2; have y2 := io_frozen_keep hf HE.out.2.1 HE.out.2.2.1 HE.out.2.2.2))
    have HF : Hid (Fr (at' (w.heap.size + 2)) W w' ∧ (g' = w.heap.size + 2 ∨ g' = W.heap.size)) := ⟨hf.mono (fun k _ e => (by simpa [Value.ownBlock] using e : k = w.heap.size + 2)), by rcases ho with ho | ho; exact Or.inl (by simpa [Value.ownBlock] using ho.symm); exact Or.inr ho⟩
    have hr' : RcS w' (.slice (some ⟨g', o'', none⟩) ([].length + l.length) cap') l := hr
    obtain ⟨vv, hvv⟩ : ∃ vv, vv = Value.slice (some ⟨g', o'', none⟩) (([] : List Rc).length + l.length) cap' := ⟨_, rfl⟩
    obtain ⟨W4, hW4⟩ : ∃ W4, W4 = w'.setCell ⟨j, 56, none⟩ (.slice (some ⟨g', o'', none⟩) (([] : List Rc).length + l.length) cap') := ⟨_, rfl⟩
    have FW' : Fr none' w w' := HB.out.2.2.1.newer HF.out.1 (by omega)
    have hg' : w.heap.size + 2 ≤ g' := by have := HF.out.2; have := HB.out.2.1; omega
    have H4 : Hid (RiAt W4 j (.slice (some ⟨g', o'', none⟩) (([] : List Rc).length + l.length) cap') { S with re := l } ∧ Fr (riO j (.slice (some ⟨g, o, none⟩) (l.length + 1) cap)) w W4 ∧ w.heap.size + 2 ≤ g' ∧ j < w.heap.size) := by
      rw [hW4]
      refine ⟨(HB.out.2.2.2.1.keep HF.out.1 (fun k hk e => by have a := HK.out k hk; have b : k = w.heap.size + 2 := e; omega)).setRe (Fr.refl _ _) hr' HB.out.2.2.2.2.2 (fun e => by have a := HB.out.1; have b : j = g' := (by simpa [Value.ownBlock] using e); omega), (FW'.mono (fun _ _ h => h.elim)).setCell (p := ⟨j, 56, none⟩) (Or.inr (Or.inl rfl)) _, hg', HB.out.1⟩
    have F4 : Fr (at' j) w' W4 := by rw [hW4]; exact fr_set _ _ _ _ (Fr.refl _ _)
    have RA4 := (HA.out.keep HF.out.1 (show w.heap.size ≠ w.heap.size + 2 by omega)).keep F4 (show w.heap.size ≠ j by have := HB.out.1; omega)
    have RB4 := (HRB.out.keep HF.out.1 (show w.heap.size + 1 ≠ w.heap.size + 2 by omega)).keep F4 (show w.heap.size + 1 ≠ j by have := HB.out.1; omega)
    simp only [List.length_nil, Nat.zero_add] at hW4
    rw [← hW4]
    clear hW4 hr hr' hf ho F4 FW' y1 y2 hvv hg' d1 e1 e2 p0 p1 p2 p3 HE
    obtain ⟨A, hA⟩ : ∃ A, A = w.heap.size := ⟨_, rfl⟩
    obtain ⟨B, hB⟩ : ∃ B, B = w.heap.size + 1 := ⟨_, rfl⟩
    rw [← hA] at RA4
    rw [← hB] at RB4
    rw [← hB, ← hA]
    have HAB : Hid (A = w.heap.size ∧ B = w.heap.size + 1) := ⟨hA, hB⟩
    clear hA hB hW
    obtain ⟨x0, x1, x2, x3⟩ := row4 RB4
    obtain ⟨y0, y1, y2, y3⟩ := row4 RA4
    obtain ⟨z0, z1, z2, z3⟩ := frozen4 RA4
    go_wp2_with fail
    refine bodyPost_ret (ret_rb (g := A) rfl rfl (RA4.put4 _ _ _ _) rfl) rfl ?_
    refine ⟨rfl, ?_⟩
    have FA : Fr (at' A) W4 (put4 W4 A (.int .i64 x.s) (.int .i64 x.p) (.int .i64 x.k) (.bool x.wr)) := (Fr.refl (at' A) _).put4 (Or.inr (show at' A A from rfl)) _ _ _ _
    have hAB := HAB.out
    have h4 := H4.out
    refine ⟨h4.2.1.newerS FA (by omega), _, ⟨_, h4.1.keep FA (fun k hk e => ?_), rfl⟩, fun k hk => ?_⟩
    · have e' : k = A := e
      rcases hk with hk | hk
      · omega
      · have hk' : k = g' := by simpa [Value.ownBlock] using hk
        omega
    · rcases hk with hk | hk
      · exact Or.inl (Or.inl hk)
      · have hk' : k = g' := by simpa [Value.ownBlock] using hk
        exact Or.inr (by omega)

theorem rtake_any (w : World) (j : Nat) (O : Nat → Prop) (S : Io) (h : IsRi w j O S) :
    Calls Try.prog 36 #[.pointer (some ⟨j, 0, none⟩)] w fun e w' => e = .returned (.tuple #[.agg #[.int .i64 (tkR S).s, .int .i64 (tkR S).p, .int .i64 (tkR S).k, .bool (tkR S).wr], .bool (tkB S)]) ∧ ChgR w j O (tkS S) w' := by
  have h0 := h
  obtain ⟨v, h, rfl⟩ := h
  unfold tkR tkB tkS
  cases hn : S.re with
  | nil =>
    refine (rtake_none w j v S h hn).mono ?_
    rintro e w' ⟨rfl, f⟩
    refine ⟨rfl, ?_⟩
    have : { S with re := ([] : List Rc).tail } = S := by
      obtain ⟨a, b, c, d⟩ := S
      simp only at hn
      subst hn
      rfl
    rw [this]
    exact ChgR.same h0 f
  | cons x l => exact rtake_some w j v S x l h hn

end Go.Proofs.Ythmombgogmgobaa
