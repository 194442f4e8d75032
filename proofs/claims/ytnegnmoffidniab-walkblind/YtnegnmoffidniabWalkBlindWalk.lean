/-
  The law WalkBlind walked: whatever came in, it answers true and turns nothing old. No statement is proved here.
-/
import Derived.Test.YtnegnmoffidniabWalkAwake
import Derived.Test.YtnegnmoffidniabWalkFar
import Derived.Test.YtnegnmoffidniabRefMem
import Derived.Test.YtnegnmoffidniabWalkOpen
namespace Go.Proofs.Ytnegnmoffidniab
open Go.ChangeShapes Go.WideShapes Go.ChangeAt Go.RowKit Go.Deep

/-- What the document reads of a walk's first entry: where the walk goes through it, no error, and the table that it says. -/
theorem rget_gen (w : World) (p bf nf : Nat) (bs : List UInt8) (root page : Int) (h : IsRef w p bf nf bs) :
    Calls Try.prog 7 #[.pointer (some ⟨p, 0, none⟩), .int .i64 root, .int .i64 (idxOf page 0)] w fun e w' => ∃ v l r f er, e = .returned (.tuple #[.agg #[.bool v, .bool l, .int .i64 r, .int .i64 f], .int .i64 er]) ∧ Fr none' w w' ∧
      (isP page = true → entK bs nf root page 0 = 0 → er = 0 ∧ f = df (ew bs root page 0)) := by
  by_cases hpl : placeE root (idxOf page 0) nf = 0
  · obtain ⟨T, i, rfl, hi, hT, hi'⟩ := place_cases hpl
    rw [hi]
    refine (rget_ok w p bf nf bs T i h hT hi').mono fun e w' ⟨he, f⟩ => ⟨_, _, _, _, _, he, f, fun _ hk => ?_⟩
    obtain ⟨_, hu⟩ := entK_ok hk
    rw [ew_half hi] at hu ⊢
    have hv : dv ((half bs T i : Nat) : Int) = true := by
      unfold usable at hu
      cases hd : dv ((half bs T i : Nat) : Int) <;> simp_all
    exact ⟨de_ok hv, rfl⟩
  · refine (rget_bad w p bf nf bs root _ h hpl).mono fun e w' ⟨he, f⟩ => ⟨_, _, _, _, _, he, f, fun hp hk => ?_⟩
    exfalso
    obtain ⟨ho, _⟩ := entK_ok hk
    obtain ⟨i, hi, hi'⟩ := idx_small hp (Or.inl rfl : (0 : Int) = 0 ∨ (0 : Int) = 1)
    apply hpl
    rw [hi]
    obtain ⟨T, rfl⟩ := Int.eq_ofNat_of_zero_le (show 0 ≤ root by omega)
    exact place_zero T i nf (by omega) hi'

set_option maxHeartbeats 8000000 in
set_option maxRecDepth 100000 in
theorem blind_nat (w : World) (a0 : Option Addr) (len cap : Nat) (P : Nat → Pt) (hl : len ≤ 9223372036854775807) (hP : Puts w a0 len P) (root page addr : Int) (wd : Nat) (ha : addr ≤ 9223372036854775807) (hwd : wd < 4294967296) :
    Calls Try.prog 3 #[.slice a0 len cap, .int .i64 root, .int .i64 page, .int .i64 addr, .int .u32 (wd : Int)] w fun e w' => e = .returned (.bool true) ∧ Below w.heap.size w w' := by
  have heq := eq_fault
  have f1 := Fr.refl none' w
  go_enter Try.func3, Try.ntmps3
  go_wp2_with fail
  refine (awake_any _).mono ?_
  rintro e v1 ⟨rfl, g1⟩
  replace hP := hP.keep g1
  replace f1 := f1.trans g1
  clear g1
  go_wp2_with fail
  refine (laid_any _ _ _ _ P hl hP).mono ?_
  rintro e vl ⟨pm, bm, pr, br, rfl, gl, TW⟩
  obtain ⟨bs, hbs⟩ : ∃ bs, laidB P (min len 200) = bs := ⟨_, rfl⟩
  rw [hbs] at TW
  have l1 : Hid (w.heap.size ≤ bm ∧ bm < vl.heap.size) := by have a := f1.size; have b := TW.lo; have c := TW.lt; exact ⟨by omega, by omega⟩
  clear hbs hP hl
  replace f1 := f1.trans gl
  clear gl
  obtain ⟨x, hx⟩ : ∃ x, single bs 16 root page = x := ⟨_, rfl⟩
  have hs1 := fun w0 h0 => single_any w0 pm bm 16 bs root page h0
  rw [hx] at hs1
  go_wp2_with fail
  refine (hs1 _ TW.ram).mono ?_
  rintro e v2 ⟨rfl, g2⟩
  replace TW := TW.keep0 g2
  replace f1 := f1.trans g2
  clear g2
  have l2 : Hid (bm < v2.heap.size) := TW.lt.2.1
  have r16 := row_alloc v2 #[.int .i64 x.ft.k, .int .i64 x.ft.s, .int .i64 x.ft.l, .bool x.ft.wk, .int .i64 x.ft.p] 30
  replace TW := TW.keep0 ((Fr.refl none' _).alloc (.cells #[.int .i64 x.ft.k, .int .i64 x.ft.s, .int .i64 x.ft.l, .bool x.ft.wk, .int .i64 x.ft.p] 30))
  replace f1 := f1.alloc (.cells #[.int .i64 x.ft.k, .int .i64 x.ft.s, .int .i64 x.ft.l, .bool x.ft.wk, .int .i64 x.ft.p] 30)
  go_wp2_with fail
  refine (rindex_any _ _ _).mono ?_
  rintro e v3 ⟨rfl, rfl⟩
  go_wp2_with fail
  refine (rget_gen _ _ _ _ _ root page TW.ref).mono ?_
  rintro e v4 ⟨ve, le, re, fe, er, rfl, g4, HG⟩
  replace HG : Hid (isP page = true → entK bs 16 root page 0 = 0 → er = 0 ∧ fe = df (ew bs root page 0)) := HG
  replace TW := TW.keep0 g4
  replace r16 := r16.keep g4 (fun h => h)
  replace f1 := f1.trans g4
  clear g4
  have r17 := row_alloc v4 #[.bool ve, .bool le, .int .i64 re, .int .i64 fe] 34
  replace TW := TW.keep0 ((Fr.refl none' _).alloc (.cells #[.bool ve, .bool le, .int .i64 re, .int .i64 fe] 34))
  replace r16 := r16.alloc (.cells #[.bool ve, .bool le, .int .i64 re, .int .i64 fe] 34)
  replace f1 := f1.alloc (.cells #[.bool ve, .bool le, .int .i64 re, .int .i64 fe] 34)
  obtain ⟨c0x0, c0x1, c0x2, c0x3⟩ := row4 r17
  by_cases hat : addr < 0
  · have t3 : decide (addr < 0) = true := decide_eq_true hat
    clear hs1 hx HG
    go_wp2_with fail
    all_goals go_ret
    all_goals exact ⟨rfl, f1.below (Nat.le_refl _) (fun _ h => h.elim)⟩
  · have t3 : decide (addr < 0) = false := decide_eq_false hat
    have hnn : 0 ≤ addr := by omega
    cases t1 : (addr / 64 == root) with
    | true =>
      clear hs1 hx HG
      go_wp2_with fail
      all_goals go_ret
      all_goals exact ⟨rfl, f1.below (Nat.le_refl _) (fun _ h => h.elim)⟩
    | false =>
      cases t2 : (er == 0) with
      | true =>
        cases t4 : (addr / 64 == fe) with
        | true =>
          clear hs1 hx HG
          go_wp2_with fail
          all_goals go_ret
          all_goals exact ⟨rfl, f1.below (Nat.le_refl _) (fun _ h => h.elim)⟩
        | false =>
          have hdf : isP page = true → entK bs 16 root page 0 = 0 → addr / 64 ≠ df (ew bs root page 0) := fun a b => by
            rw [← (HG.out a b).2]
            simpa using t4
          have hb := store_blind (root := root) (page := page) (addr := addr) (v := wd) TW.ram.len hnn (by simpa using t1) hdf
          rw [hx] at hb
          clear hx HG hdf
          go_wp2_with fail
          clear c0x0 c0x1 c0x2 c0x3
          refine (store_any _ _ _ _ _ addr _ wd TW.ram (by omega) (by omega)).mono ?_
          rintro e v9 ⟨rfl, g9, h9⟩
          have m1 := l1.out
          have m2 := l2.out
          replace r16 := r16.keep g9 (show _ ≠ _ by omega)
          replace f1 := f1.newer g9 (by omega)
          have hs2 := fun w0 h0 => single_any w0 pm bm 16 (storeB bs addr 1 16 wd) root page h0
          rw [hb] at hs2
          clear g9 m1 m2 l1 l2 TW r17 hs1 hb
          go_wp2_with fail
          refine (hs2 _ h9).mono ?_
          rintro e v10 ⟨rfl, g10⟩
          replace r16 := r16.keep g10 (fun h => h)
          replace h9 := h9.keep g10 (fun h => h) (fun h => h)
          replace f1 := f1.trans g10
          clear g10
          clear hs2
          have r21 := row_alloc v10 #[.int .i64 x.ft.k, .int .i64 x.ft.s, .int .i64 x.ft.l, .bool x.ft.wk, .int .i64 x.ft.p] 30
          replace r16 := r16.alloc (.cells #[.int .i64 x.ft.k, .int .i64 x.ft.s, .int .i64 x.ft.l, .bool x.ft.wk, .int .i64 x.ft.p] 30)
          replace h9 := h9.alloc (.cells #[.int .i64 x.ft.k, .int .i64 x.ft.s, .int .i64 x.ft.l, .bool x.ft.wk, .int .i64 x.ft.p] 30)
          replace f1 := f1.alloc (.cells #[.int .i64 x.ft.k, .int .i64 x.ft.s, .int .i64 x.ft.l, .bool x.ft.wk, .int .i64 x.ft.p] 30)
          obtain ⟨c1x0, c1x1, c1x2, c1x3, c1x4⟩ := cells5 r16
          obtain ⟨c2x0, c2x1, c2x2, c2x3, c2x4⟩ := cells5 r21
          have q1 : (x.fr == x.fr) = true := by simp
          have q2 : (x.ri == x.ri) = true := by simp
          go_wp2_with fail
          go_ret
          exact ⟨rfl, f1.below (Nat.le_refl _) (fun _ h => h.elim)⟩
      | false =>
        have hdf : isP page = true → entK bs 16 root page 0 = 0 → addr / 64 ≠ df (ew bs root page 0) := fun a b => by
          have e0 := (HG.out a b).1
          rw [e0] at t2
          exact absurd t2 (by decide)
        have hb := store_blind (root := root) (page := page) (addr := addr) (v := wd) TW.ram.len hnn (by simpa using t1) hdf
        rw [hx] at hb
        clear hx HG hdf
        go_wp2_with fail
        clear c0x0 c0x1 c0x2 c0x3
        refine (store_any _ _ _ _ _ addr _ wd TW.ram (by omega) (by omega)).mono ?_
        rintro e v9 ⟨rfl, g9, h9⟩
        have m1 := l1.out
        have m2 := l2.out
        replace r16 := r16.keep g9 (show _ ≠ _ by omega)
        replace f1 := f1.newer g9 (by omega)
        have hs2 := fun w0 h0 => single_any w0 pm bm 16 (storeB bs addr 1 16 wd) root page h0
        rw [hb] at hs2
        clear g9 m1 m2 l1 l2 TW r17 hs1 hb
        go_wp2_with fail
        refine (hs2 _ h9).mono ?_
        rintro e v10 ⟨rfl, g10⟩
        replace r16 := r16.keep g10 (fun h => h)
        replace h9 := h9.keep g10 (fun h => h) (fun h => h)
        replace f1 := f1.trans g10
        clear g10
        clear hs2
        have r21 := row_alloc v10 #[.int .i64 x.ft.k, .int .i64 x.ft.s, .int .i64 x.ft.l, .bool x.ft.wk, .int .i64 x.ft.p] 30
        replace r16 := r16.alloc (.cells #[.int .i64 x.ft.k, .int .i64 x.ft.s, .int .i64 x.ft.l, .bool x.ft.wk, .int .i64 x.ft.p] 30)
        replace h9 := h9.alloc (.cells #[.int .i64 x.ft.k, .int .i64 x.ft.s, .int .i64 x.ft.l, .bool x.ft.wk, .int .i64 x.ft.p] 30)
        replace f1 := f1.alloc (.cells #[.int .i64 x.ft.k, .int .i64 x.ft.s, .int .i64 x.ft.l, .bool x.ft.wk, .int .i64 x.ft.p] 30)
        obtain ⟨c1x0, c1x1, c1x2, c1x3, c1x4⟩ := cells5 r16
        obtain ⟨c2x0, c2x1, c2x2, c2x3, c2x4⟩ := cells5 r21
        have q1 : (x.fr == x.fr) = true := by simp
        have q2 : (x.ri == x.ri) = true := by simp
        go_wp2_with fail
        go_ret
        exact ⟨rfl, f1.below (Nat.le_refl _) (fun _ h => h.elim)⟩

theorem blind_any (w : World) (a0 : Option Addr) (len cap : Nat) (P : Nat → Pt) (hl : len ≤ 9223372036854775807) (hP : Puts w a0 len P) (root page addr wd : Int) (w3 : (Lit.int .i64 addr).wf = true) (w4 : (Lit.int .u32 wd).wf = true) :
    Calls Try.prog 3 #[.slice a0 len cap, .int .i64 root, .int .i64 page, .int .i64 addr, .int .u32 wd] w fun e w' => e = .returned (.bool true) ∧ Below w.heap.size w w' := by
  have h1 := bounds_i64 w3
  have h2 := bounds_u32 w4
  obtain ⟨v, rfl⟩ := Int.eq_ofNat_of_zero_le h2.1
  exact blind_nat w a0 len cap P hl hP root page addr v h1.2 (by omega)

end Go.Proofs.Ytnegnmoffidniab
