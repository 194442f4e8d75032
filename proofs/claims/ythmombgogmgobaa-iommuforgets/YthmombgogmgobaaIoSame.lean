/-
  The contract of the laws' same over the translation: both stand alike, so it answers true. No statement is proved here.
-/
import Derived.Test.YthmombgogmgobaaIoDoes
import Derived.Test.YthmombgogmgobaaFrame
import Derived.Test.YthmombgogmgobaaSame
import Derived.Deep.CutBlock
namespace Go.Proofs.Ythmombgogmgobaa
open Go.RowKit

/-- A list of records of the call's own, of which the first k may have been turned. -/
structure RcB (w : World) (g k : Nat) (l : List Rc) : Prop where
  row : ∃ cur, Row w g cur 58 ∧ cur.size = l.length * 4 ∧ ∀ j u, k * 4 ≤ j → (rcL l)[j]? = some u → cur[j]? = some u
theorem rcB_of {w : World} {g n c : Nat} {l : List Rc} (h : RcS w (.slice (some ⟨g, 0, none⟩) n c) l) (_hc : c = l.length) (hx : ∃ cur, Row w g cur 58 ∧ cur.size = l.length * 4) : RcB w g 0 l := by
  rcases h with ⟨h, _⟩ | ⟨g', o, cap, cur, e, hr, h1, h2, h3⟩
  · cases h
  · cases e
    obtain ⟨cur', hr', hs⟩ := hx
    have e : cur = cur' := by
      have a : w.heap[g]? = some (.cells cur 58 (0, 0)) := hr
      have b : w.heap[g]? = some (.cells cur' 58 (0, 0)) := hr'
      rw [a] at b
      simpa using b
    subst e
    exact ⟨cur, hr, hs, fun j u _ hu => by have := h3 j u hu; rwa [Nat.zero_add] at this⟩
theorem RcB.keep {S : Nat → Prop} {w w' : World} {g k : Nat} {l : List Rc} (h : RcB w g k l) (f : Fr S w w') (hs : ¬ S g) : RcB w' g k l := by
  obtain ⟨cur, hr, h1, h2⟩ := h.row
  exact ⟨cur, hr.keep f hs, h1, h2⟩
theorem RcB.cells {w : World} {g k : Nat} {l : List Rc} (h : RcB w g k l) {y : Rc} (hk : l[k]? = some y) :
    w.cell? ⟨g, k * 4, none⟩ = some (.int .i64 y.s) ∧ w.cell? ⟨g, k * 4 + 1, none⟩ = some (.int .i64 y.p) ∧ w.cell? ⟨g, k * 4 + 2, none⟩ = some (.int .i64 y.k) ∧ w.cell? ⟨g, k * 4 + 3, none⟩ = some (.bool y.wr) := by
  obtain ⟨cur, hr, h1, h2⟩ := h.row
  obtain ⟨c0, c1, c2, c3⟩ := rcL_at l k y hk
  exact ⟨(hr.cell _).trans (h2 _ _ (by omega) c0), (hr.cell _).trans (h2 _ _ (by omega) c1), (hr.cell _).trans (h2 _ _ (by omega) c2), (hr.cell _).trans (h2 _ _ (by omega) c3)⟩
theorem RcB.frozen {w : World} {g k : Nat} {l : List Rc} (h : RcB w g k l) (i : Nat) : w.frozen? ⟨g, i, none⟩ = false := by obtain ⟨cur, hr, _⟩ := h.row; exact hr.frozen i
theorem RcB.set {w : World} {g k : Nat} {l : List Rc} (h : RcB w g k l) (v : Value) : RcB (w.setCell ⟨g, k * 4 + 1, none⟩ v) g (k + 1) l := by
  obtain ⟨cur, hr, h1, h2⟩ := h.row
  exact ⟨_, hr.setCell _ _, by simpa using h1, fun j u hj hu => by rw [Array.getElem?_setIfInBounds, if_neg (by omega)]; exact h2 j u (by omega) hu⟩

theorem copy_rc' {w : World} {v : Value} {l : List Rc} (h : RcS w v l) (g : Nat) (cur : Array Value) (hg : Row w g cur 58) (hc : cur.size = l.length * 4) :
    ∃ w2, (∀ ty, (Builtin.copy_ #[55, 55] ty #[.slice (.some ⟨g, 0, none⟩) l.length l.length, v]).run Try.prog w = .ok (.int .i64 (l.length : Int)) w2) ∧ RcS w2 (.slice (.some ⟨g, 0, none⟩) l.length l.length) l ∧ Fr (at' g) w w2 ∧ ∃ cur', Row w2 g cur' 58 ∧ cur'.size = l.length * 4 := by
  have hsz := size_rec
  cases hq : Try.prog.info? 58 with
  | none => simp [hq] at hsz
  | some i =>
    have hi : i.size = 4 := by simpa [hq] using hsz
    have hf := h.first
    obtain ⟨a, cap, rfl⟩ := h.form
    have hst := run_storeCells_cells (P := Try.prog) g 0 (rcL l) 0 w (fun j hj => by rw [hg.cell]; rw [rcL_length] at hj; simp; omega) (fun j _ => hg.frozen _) (rcL_one l)
    simp only [Nat.add_zero] at hst
    obtain ⟨cur', r1, r2, r3, r4⟩ := setCells_at (rcL l) w g 0 cur _ hg
    refine ⟨w.setCells g 0 (rcL l), fun ty => ?_, Or.inr ⟨g, 0, l.length, cur', rfl, r1, Nat.le_refl _, by rw [r2, hc]; omega, fun j u hu => r4 j u hu ?_⟩, io_frcells g _ w w 0 (Fr.refl _ w), cur', r1, by rw [r2, hc]⟩
    · simp [Builtin.copy_, run_underlying Try.underlying55, Builtin.lenOf, sizeOf, typeInfo, hq, hi, hf, hst, goInt]
    · have := (List.getElem?_eq_some_iff.mp hu).1
      rw [rcL_length] at this
      omega

set_option maxHeartbeats 1000000 in
theorem records_own (w : World) (b : Nat) (O : Nat → Prop) (S : Io) (h : IsIo w b O S) :
    Calls Try.prog 17 #[.pointer (some ⟨b, 0, none⟩)] w fun e w' => ∃ g, e = .returned (.slice (some ⟨g, 0, none⟩) S.re.length S.re.length) ∧ w.heap.size ≤ g ∧ Fr none' w w' ∧ RcB w' g 0 S.re := by
  obtain ⟨m, v, h, rfl⟩ := h
  have h8 := h.ok.re
  obtain ⟨cur, hcs, hmk⟩ := make_rc S.re.length (by omega) w
  have r0 := row_alloc w cur 58
  have f0 := (Fr.refl none' w).alloc (.cells cur 58)
  have h1 := h.keep0 f0
  obtain ⟨w2, hcp, hr2, f2, hx2⟩ := copy_rc' h1.re w.heap.size cur r0 hcs
  obtain ⟨a, cap, hv⟩ := h.re.form
  rw [hv] at hcp
  obtain ⟨c0, c1, c2⟩ := h.cells
  obtain ⟨d0, d1, d2⟩ := h1.cells
  rw [hv] at c1 d1
  have HI : Hid (Fr none' w w2 ∧ RcB w2 w.heap.size 0 S.re) := ⟨f0.newer f2 (Nat.le_refl _), rcB_of hr2 rfl hx2⟩
  clear f2 hr2 h1 f0 r0 hcs h hv h8 c0 c2 d0 d2 hx2
  go_enter Try.func17, Try.ntmps17
  go_wp2_with fail
  go_ret
  exact ⟨_, rfl, Nat.le_refl _, HI.out.1, HI.out.2⟩

theorem RcS.some' {w : World} {v : Value} {l : List Rc} (h : RcS w v l) (hl : 0 < l.length) : ∃ g o cap, v = .slice (.some ⟨g, o, none⟩) l.length cap := by
  rcases h with ⟨_, rfl⟩ | ⟨g, o, cap, cur, rfl, _⟩
  · simp at hl
  · exact ⟨g, o, cap, rfl⟩

set_option maxHeartbeats 4000000 in
set_option maxRecDepth 100000 in
theorem iosame_any (w : World) (x : Nat) (U : Nat → Prop) (bs : List UInt8) (S : Io) (h : IsBo w x U bs S) :
    Calls Try.prog 11 #[.pointer (some ⟨x, 0, none⟩)] w fun e w' => e = .returned (.bool true) ∧ Fr none' w w' := by
  obtain ⟨pm, bm, pr, br, bi, ji, O, Q, h, rfl⟩ := h
  obtain ⟨x0, x1, x2, x3⟩ := h.row
  have hneq := neq_rec
  go_enter Try.func11, Try.ntmps11
  go_wp2_with fail
  refine (records_own _ _ _ _ h.io).mono ?_
  rintro e w1 ⟨g, rfl, hg, f1, hl⟩
  have hgx : g ≠ x ∧ g ≠ ji := by have := h.xlt.1; have := h.ri.lt ji (by obtain ⟨v, _, rfl⟩ := h.ri; exact Or.inl rfl); omega
  have HG : Hid (w.heap.size ≤ g) := hg
  have HB : Hid (∀ j, boU x pm bm pr br O Q j → j < w.heap.size) := fun j hj => h.lt j hj
  replace h := h.keep0 f1
  clear x0 x1 x2 x3 hg
  obtain ⟨x0, x1, x2, x3⟩ := h.row
  go_wp2_with fail
  refine (iolost_any _ _ _ _ h.io).mono ?_
  rintro e w2 ⟨rfl, f2⟩
  replace h := h.keep0 f2
  replace f1 := f1.trans f2
  replace hl := hl.keep f2 (fun h => h)
  clear x0 x1 x2 x3 f2
  obtain ⟨x0, x1, x2, x3⟩ := h.row
  obtain ⟨v, hR, hQ⟩ := h.ri
  obtain ⟨a, cap, hv⟩ := hR.re.form
  obtain ⟨d1, d2⟩ := hR.cells
  rw [hv] at d1
  obtain ⟨n, hn⟩ : ∃ n, n = S.re.length := ⟨_, rfl⟩
  have h8 := h.io.ok.re
  rw [← hn] at d1 h8
  rw [← hn]
  have HN : Hid (n = S.re.length ∧ v = .slice a n cap) := ⟨hn, by rw [hn]; exact hv⟩
  clear hn hv
  go_upto_block 0 with fail
  have HQ : Hid (Q = riO ji v) := hQ
  have HR : Hid (RiAt w2 ji v S) := hR
  clear hQ hR d1 d2 x0 x1 x2 x3
  go_cut [5] from 47 to 71 (fun s wx => Fr none' w wx ∧ BoAt wx x pm bm pr br bi ji O Q bs bs S S)
  case first =>
    go_wp2_with fail
    go_loopw [5] (fun i wr => ∃ k : Nat, k ≤ n ∧ i = .int .i64 k ∧ Fr none' w wr ∧ BoAt wr x pm bm pr br bi ji O Q bs bs S S ∧ RcB wr g k S.re) (fun i _ => 8 - (intOf i).toNat)
    case atStart => exact ⟨0, by omega, rfl, f1, h, hl⟩
    case round =>
      clear f1 h hl HR HQ
      obtain ⟨k, hk, rfl, f1, h, hl⟩ := hrel
      by_cases hlt : k < n
      · obtain ⟨y, hy⟩ : ∃ y, S.re[k]? = some y := ⟨S.re[k]'(by have := HN.out.1; omega), by simp⟩
        obtain ⟨c0, c1, c2, c3⟩ := hl.cells hy
        obtain ⟨x0, x1, x2, x3⟩ := h.row
        obtain ⟨v', hR', _⟩ := h.ri
        obtain ⟨g2, o2, cap2, hv'⟩ := hR'.re.some' (by have := HN.out.1; omega)
        rw [← HN.out.1] at hv'
        have e1 := hR'.cells.1
        rw [hv'] at e1
        have hre := hR'.re
        rw [hv'] at hre
        obtain ⟨b0, b1, b2, b3⟩ := hre.cells hy
        have i1 : 0 ≤ (k : Int) ∧ (k : Int) < (n : Int) := by omega
        have HK : Hid (Fr none' w wr ∧ BoAt wr x pm bm pr br bi ji O Q bs bs S S ∧ RcB wr g k S.re) := ⟨f1, h, hl⟩
        clear hre hR' hv' f1 h hl
        go_wp2_with fail
        go_quiet (fail)
        have h5 := HK.out.2.1.keep0 (fr_drewN wr nq)
        have l5 := HK.out.2.2.keep (fr_drewN wr nq) (fun h => h)
        have f5 := HK.out.1.trans (fr_drewN wr nq)
        have q1 := (l5.cells hy).2.1
        have z1 := l5.frozen (k * 4 + 1)
        obtain ⟨w5, hw5⟩ : ∃ w5, w5 = wr.drewN nq := ⟨_, rfl⟩
        rw [← hw5] at h5 l5 f5 q1 z1 ⊢
        have FS : Fr (at' g) w5 (w5.setCell ⟨g, k * 4 + 1, none⟩ (.int .i64 (-1))) := fr_set _ _ _ _ (Fr.refl _ _)
        have HL : Hid (Fr none' w (w5.setCell ⟨g, k * 4 + 1, none⟩ (.int .i64 (-1))) ∧ BoAt (w5.setCell ⟨g, k * 4 + 1, none⟩ (.int .i64 (-1))) x pm bm pr br bi ji O Q bs bs S S ∧ RcB (w5.setCell ⟨g, k * 4 + 1, none⟩ (.int .i64 (-1))) g (k + 1) S.re) := ⟨f5.newer FS HG.out, h5.keep FS (fun j hj e => by have a := HB.out j hj; have b : j = g := e; have := HG.out; omega), l5.set _⟩
        clear h5 l5 f5 FS hw5 c0 c1 c2 c3 x0 x1 x2 x3 e1 b0 b1 b2 b3 HK
        go_wp2_with fail
        go_roundw
        case rel => exact ⟨k + 1, by omega, by go_num, HL.out.1, HL.out.2.1, HL.out.2.2⟩
        case measure => simp [intOf]; omega
      · obtain rfl : k = n := by omega
        go_wp2_with fail
        go_meet
        exact ⟨f1, h⟩
  case rest =>
  clear f1 h hl
  obtain ⟨f1, h⟩ := hcut
  clear HR HQ HN hgx hneq
  go_upto_block 2 with fail
  go_cut [6] from 72 to 90 (fun s wx => Fr none' w wx ∧ BoAt wx x pm bm pr br bi ji O Q bs bs S S)
  case first =>
    go_wp2_with fail
    go_loopw [6] (fun i wr => ∃ z : Int, -1 ≤ z ∧ z ≤ 17 ∧ i = .int .i64 z ∧ Fr none' w wr ∧ BoAt wr x pm bm pr br bi ji O Q bs bs S S) (fun i _ => (17 - intOf i).toNat)
    case atStart => exact ⟨-1, by omega, by omega, rfl, f1, h⟩
    case round =>
      clear f1 h
      obtain ⟨z, hz1, hz2, rfl, f1, h⟩ := hrel
      by_cases hlt : z ≤ 16
      · have uk : decide (z ≤ 16) = true := decide_eq_true hlt
        obtain ⟨x0, x1, x2, x3⟩ := h.row
        go_wp2_with fail
        refine (ioroot_any _ _ _ _ _ h.io).mono ?_
        rintro e w3 ⟨rfl, f3⟩
        replace h := h.keep0 f3
        replace f1 := f1.trans f3
        clear x0 x1 x2 x3 f3
        obtain ⟨x0, x1, x2, x3⟩ := h.row
        go_wp2_with fail
        refine (rroot_any _ _ _ _ _ h.ri).mono ?_
        rintro e w4 ⟨rfl, f4⟩
        replace h := h.keep0 f4
        replace f1 := f1.trans f4
        clear x0 x1 x2 x3 f4
        go_wp2_with fail
        go_roundw
        case rel => exact ⟨z + 1, by omega, by omega, by go_num, f1, h⟩
        case measure => simp [intOf]; omega
      · have uk : decide (z ≤ 16) = false := decide_eq_false hlt
        go_wp2_with fail
        go_meet
        exact ⟨f1, h⟩
  case rest =>
  clear f1 h
  obtain ⟨f1, h⟩ := hcut
  go_wp2_with fail
  go_loopw [9] (fun i wr => ∃ k : Nat, k ≤ 16 ∧ i = .int .i64 k ∧ Fr none' w wr ∧ BoAt wr x pm bm pr br bi ji O Q bs bs S S) (fun i _ => 16 - (intOf i).toNat)
  case atStart => exact ⟨0, by omega, rfl, f1, h⟩
  case round =>
    clear f1 h
    obtain ⟨k, hk, rfl, f1, h⟩ := hrel
    by_cases hlt : k < 16
    · have hfl := length_frameOf bs k 16 h.ram.len hlt
      have HFL : Hid ((frameOf bs k).length = 64) := hfl
      clear hfl
      obtain ⟨x0, x1, x2, x3⟩ := h.row
      go_wp2_with fail
      refine (frame_ok _ _ _ _ _ _ h.ram hlt).mono ?_
      rintro e w3 ⟨rfl, f3, r3⟩
      have b3 := begins_row r3
      rw [HFL.out] at b3
      replace h := h.keep0 f3
      replace f1 := f1.trans f3
      clear x0 x1 x2 x3 f3 r3
      obtain ⟨x0, x1, x2, x3⟩ := h.row
      go_wp2_with fail
      refine (rframe_ok _ _ _ _ _ _ h.ref hlt).mono ?_
      rintro e w4 ⟨g4, cap4, rfl, hg4, f4, b4⟩
      replace b3 := b3.keep f4 (fun h => h)
      replace h := h.keep0 f4
      replace f1 := f1.trans f4
      clear x0 x1 x2 x3 f4 hg4
      go_wp2_with fail
      refine (same_frame _ _ _ _ _ _ HFL.out b3 b4).mono ?_
      rintro e w5 ⟨rfl, f5⟩
      replace h := h.keep0 f5
      replace f1 := f1.trans f5
      clear f5 b3 b4
      go_wp2_with fail
      go_roundw
      case rel => exact ⟨k + 1, by omega, by go_num, f1, h⟩
      case measure => simp [intOf]; omega
    · obtain rfl : k = 16 := by omega
      go_wp2_with fail
      go_ret
      exact ⟨rfl, f1⟩

end Go.Proofs.Ythmombgogmgobaa
