/-
  The walk of the law PteOnly: an entry that is written is there, and no other entry of any table is another one: for every list of acts, every table and index and every entry the law returns true and nothing old turns.
-/
import Derived.Test.YtefjincghkdeiaaPteActs
import Derived.Test.YtefjincghkdeiaaPteAwake
import Derived.Test.YtefjincghkdeiaaPteHalf
namespace Go.Proofs.Ytefjincghkdeiaa
open Go.RowKit

/-- The tables that were read before: block b has three slices; the first k are those of the tables' entries. -/
def Bef (w : World) (b k : Nat) (bs : List UInt8) : Prop :=
  ∃ cs, Row w b cs 53 ∧ cs.size = 3 ∧ ∀ j, j < k → ∃ g cap, cs[j]? = some (.slice (some ⟨g, 0, none⟩) 32 cap) ∧ b < g ∧ EntRow w g cap 32 (fun i => half bs j i)

theorem Bef.lt {w : World} {b k : Nat} {bs : List UInt8} (h : Bef w b k bs) : b < w.heap.size := by
  obtain ⟨cs, h, _⟩ := h; exact h.lt

theorem Bef.keep {S : Nat → Prop} {w w' : World} {b k : Nat} {bs : List UInt8} (h : Bef w b k bs) (f : Fr S w w') (hs : ∀ q, b ≤ q → ¬ S q) : Bef w' b k bs := by
  obtain ⟨cs, hr, hc, he⟩ := h
  refine ⟨cs, hr.keep f (hs b (Nat.le_refl _)), hc, fun j hj => ?_⟩
  obtain ⟨g, cap, h1, h2, h3⟩ := he j hj
  exact ⟨g, cap, h1, h2, h3.keep f (hs g (by omega))⟩

theorem Bef.any {w : World} {b k : Nat} {bs : List UInt8} (h : Bef w b k bs) (i : Nat) (hi : i < 3) : ∃ y, w.cell? ⟨b, i, none⟩ = some y := by
  obtain ⟨cs, hr, hs, _⟩ := h
  rw [hr.cell]
  exact ⟨cs[i]'(by omega), by simp [hs, hi]⟩

theorem Bef.frozen {w : World} {b k : Nat} {bs : List UInt8} (h : Bef w b k bs) (i : Nat) : w.frozen? ⟨b, i, none⟩ = false := by
  obtain ⟨cs, hr, _⟩ := h; exact hr.frozen i

theorem Bef.set {w : World} {b k g cap : Nat} {bs : List UInt8} (h : Bef w b k bs) (hk : k < 3) (hg : b < g) (e : EntRow w g cap 32 (fun i => half bs k i)) : Bef (w.setCell ⟨b, k, none⟩ (.slice (some ⟨g, 0, none⟩) 32 cap)) b (k + 1) bs := by
  obtain ⟨cs, hr, hc, he⟩ := h
  have f : Fr (at' b) w (w.setCell ⟨b, k, none⟩ (.slice (some ⟨g, 0, none⟩) 32 cap)) := fr_set w b k _ (Fr.refl _ _)
  refine ⟨_, hr.setCell k _, by simpa using hc, fun j hj => ?_⟩
  by_cases hjk : j = k
  · subst hjk
    exact ⟨g, cap, by simp [hc, hk], hg, e.keep f (show ¬ at' b g by unfold at'; omega)⟩
  · obtain ⟨g', cap', h1, h2, h3⟩ := he j (by omega)
    refine ⟨g', cap', ?_, h2, h3.keep f (show ¬ at' b g' by unfold at'; omega)⟩
    rw [Array.getElem?_setIfInBounds, if_neg (by omega)]; exact h1

theorem Bef.at {w : World} {b k : Nat} {bs : List UInt8} (h : Bef w b k bs) (j : Nat) (hj : j < k) : ∃ g cap, w.cell? ⟨b, j, none⟩ = some (.slice (some ⟨g, 0, none⟩) 32 cap) ∧ EntRow w g cap 32 (fun i => half bs j i) := by
  obtain ⟨cs, hr, _, he⟩ := h
  obtain ⟨g, cap, h1, _, h3⟩ := he j hj
  exact ⟨g, cap, (hr.cell _).trans h1, h3⟩

theorem bef_new (w : World) (bs : List UInt8) : Bef (w.alloc (.cells #[.slice none 0 0, .slice none 0 0, .slice none 0 0] 53)) w.heap.size 0 bs :=
  ⟨_, row_alloc _ _ _, rfl, fun j hj => by omega⟩

/-- A table of right entries, read whole. -/
theorem tab_good (w : World) (p bf nf : Nat) (bs : List UInt8) (t : Nat) (h : IsRam w p bf nf bs) (ht : t < nf) (hg : Good bs nf) :
    Calls Try.prog 25 #[.pointer (some ⟨p, 0, none⟩), .int .i64 (t : Int)] w fun e w' => ∃ g cap, e = .returned (.tuple #[.slice (some ⟨g, 0, none⟩) 32 cap, .int .i64 0]) ∧ w.heap.size ≤ g ∧ Fr none' w w' ∧ EntRow w' g cap 32 (fun j => half bs t j) := by
  refine (tab_in w p bf nf bs t h ht).mono ?_
  rintro e w' ⟨f1, ⟨_, g, cap, he, h2, h3⟩ | ⟨⟨k, hk, hb⟩, _⟩⟩
  · exact ⟨g, cap, he, h2, f1, h3⟩
  · have := hg t k ht hk
    rw [hb] at this; cases this

set_option maxRecDepth 100000 in
set_option maxHeartbeats 4000000 in
theorem only_nil (cap : Nat) (a0 : Option Addr) (t i : Int) (v l : Bool) (r f : Int) (w : World) :
    Calls Try.prog 7 #[.slice a0 0 cap, .int .i64 t, .int .i64 i, .agg #[.bool v, .bool l, .int .i64 r, .int .i64 f]] w fun e w' => e = .returned (.bool true) ∧ Fr none' w w' := by
  have f0 := (Fr.refl none' w).alloc (.cells (ebox v l r f) 23)
  have xb := row_alloc w (ebox v l r f) 23
  have z0 : (w.alloc (.cells (ebox v l r f) 23)).heap.size = w.heap.size + 1 := by simp
  unfold ebox at f0 z0
  go_enter Try.func7, Try.ntmps7
  go_wp2_with fail
  refine (awake_any _).mono ?_
  rintro e w1 ⟨rfl, f1⟩
  have z1 : w.heap.size + 1 ≤ w1.heap.size := by have := f1.size; omega
  replace xb := xb.keep f1 (fun h => h)
  replace f1 := f0.trans f1
  clear f0 z0
  go_wp2_with fail
  refine (new_nat 3 _ (by omega) (by omega)).mono ?_
  rintro e w2 ⟨rfl, f2, r2⟩
  go_wp2_with fail
  refine (rnew_nat 3 _ (by omega) (by omega)).mono ?_
  rintro e w3 ⟨rfl, f3, r3⟩
  have t3 := twin_new (B := w.heap.size + 1) z1 r2 f3 r3
  have z2 := r2.head.lt
  replace xb := (xb.keep f2 (fun h => h)).keep f3 (fun h => h)
  replace f3 := (f1.trans f2).trans f3
  have HG : Hid (Good (List.replicate (64 * 3) (0 : UInt8)) 3) := good_zeros _ _
  clear f1 f2 r2 r3
  generalize List.replicate (64 * 3) (0 : UInt8) = bs at *
  go_wp2_with fail
  refine wp_loop_rounds 1 ?_
  rw [rounds_succ]
  have tk := t3
  have fk := f3
  clear t3 f3
  have bq0 := bef_new w3 bs
  have xb4 := xb.alloc (.cells #[.slice none 0 0, .slice none 0 0, .slice none 0 0] 53)
  have t4 := tk.keep0 ((Fr.refl none' w3).alloc (.cells #[.slice none 0 0, .slice none 0 0, .slice none 0 0] 53))
  have f4 := fk.alloc (.cells #[.slice none 0 0, .slice none 0 0, .slice none 0 0] 53)
  have z4 := tk.lt
  have z5 := tk.lo
  have HLN : Hid (bs.length = 64 * 3) := tk.ram.len
  clear tk fk xb
  go_wp2_with fail
  go_loopw [16] (fun i wq => ∃ k : Nat, k ≤ 3 ∧ i = .int .i64 k ∧ Fr none' w wq ∧ Row wq w.heap.size (ebox v l r f) 23 ∧ Twin wq (w.heap.size + 1) (w1.heap.size + 1) w1.heap.size (w2.heap.size + 1) w2.heap.size 3 bs ∧ Bef wq w3.heap.size k bs) (fun i _ => 3 - (intOf i).toNat)
  case atStart => exact ⟨0, by omega, rfl, f4, xb4, t4, bq0⟩
  case round =>
    clear bq0 xb4 t4 f4
    obtain ⟨k, hk, rfl, fk, xb, tk, bq⟩ := hrel
    by_cases hk3 : k < 3
    · go_wp2_with fail
      refine (tab_good _ _ _ _ _ _ tk.ram hk3 HG).mono ?_
      rintro e w5 ⟨g, cap, rfl, hg, f5, eg⟩
      have zq := bq.lt
      replace xb := xb.keep f5 (fun h => h)
      replace tk := tk.keep0 f5
      replace bq := bq.keep f5 (fun _ _ h => h)
      replace fk := fk.trans f5
      clear f5
      obtain ⟨y, c0⟩ := bq.any k hk3
      have c1 := bq.frozen k
      have i1 : 0 ≤ (k : Int) ∧ (k : Int) < 3 := by omega
      have u1 := bq.set hk3 (show w3.heap.size < g by omega) eg
      have u2 := xb.setCell_other (p := ⟨w3.heap.size, k, none⟩) (show w3.heap.size ≠ w.heap.size by omega) (.slice (some ⟨g, 0, none⟩) 32 cap)
      have u3 := tk.keep (fr_set w5 w3.heap.size k (.slice (some ⟨g, 0, none⟩) 32 cap) (Fr.refl _ _)) (show ¬ at' w3.heap.size _ by unfold at'; omega) (show ¬ at' w3.heap.size _ by unfold at'; omega) (show ¬ at' w3.heap.size _ by unfold at'; omega) (show ¬ at' w3.heap.size _ by unfold at'; omega)
      have u4 := fk.setCell (p := ⟨w3.heap.size, k, none⟩) (Or.inl (show w.heap.size ≤ w3.heap.size by omega)) (.slice (some ⟨g, 0, none⟩) 32 cap)
      clear bq xb tk fk eg
      go_wp2_with fail
      go_roundw
      case rel => exact ⟨k + 1, by omega, by go_num, u4, u2, u3, u1⟩
      case measure => simp [intOf]; omega
    · obtain rfl : k = 3 := by omega
      obtain ⟨x0, x1, x2, x3⟩ := ebox_cells xb
      go_wp2_with fail
      refine (put_any _ _ _ _ _ _ _ _ _ _ _ tk.ram).mono ?_
      rintro e w6 ⟨rfl, f6, rm⟩
      replace xb := xb.keep f6 (show ¬ at' w1.heap.size w.heap.size by unfold at'; omega)
      replace bq := bq.keep f6 (fun q hq e => by unfold at' at e; omega)
      replace fk := fk.newer f6 (by omega)
      have HG2 : Hid (Good (putB bs t i 3 v l r f) 3) := good_put HLN.out HG.out
      clear f6 tk x0 x1 x2 x3
      go_wp2_with fail
      go_loopw [20] (fun i' wq => ∃ k : Nat, k ≤ 3 ∧ i' = .int .i64 k ∧ Fr none' w wq ∧ Row wq w.heap.size (ebox v l r f) 23 ∧ IsRam wq (w1.heap.size + 1) w1.heap.size 3 (putB bs t i 3 v l r f) ∧ Bef wq w3.heap.size 3 bs) (fun i' _ => 3 - (intOf i').toNat)
      case atStart => exact ⟨0, by omega, rfl, fk, xb, rm, bq⟩
      case round =>
        clear xb rm bq fk
        obtain ⟨k, hk, rfl, fk, xb, rm, bq⟩ := hrel
        by_cases hk3 : k < 3
        · go_wp2_with fail
          refine (tab_good _ _ _ _ _ _ rm hk3 HG2).mono ?_
          rintro e w7 ⟨g, cap, rfl, hg, f7, eg⟩
          replace xb := xb.keep f7 (fun h => h)
          replace rm := rm.keep f7 (fun h => h) (fun h => h)
          replace bq := bq.keep f7 (fun _ _ h => h)
          replace fk := fk.trans f7
          clear f7
          obtain ⟨x0, x1, x2, x3⟩ := ebox_cells xb
          obtain ⟨g', cap', b0, eg'⟩ := bq.at k hk3
          have i1 : 0 ≤ (k : Int) ∧ (k : Int) < 3 := by omega
          go_wp2_with fail
          go_loopw [23] (fun i' wq => ∃ j : Nat, j ≤ 32 ∧ i' = .int .i64 j ∧ ∃ m, wq = w7.drewN m) (fun i' _ => 32 - (intOf i').toNat)
          case atStart => exact ⟨0, by omega, rfl, 0, rfl⟩
          case round =>
            obtain ⟨j, hj, rfl, m, rfl⟩ := hrel
            by_cases hj32 : j < 32
            · have i2 : 0 ≤ (j : Int) ∧ (j : Int) < 32 := by omega
              obtain ⟨c0, c1, c2, c3⟩ := eg.cells j hj32
              obtain ⟨d0, d1, d2, d3⟩ := eg'.cells j hj32
              by_cases p0 : putE t i 3 v l r f = 0
              · have q0 : (putE t i 3 v l r f == 0) = true := by simpa using p0
                by_cases p1 : (k : Int) = t
                · have q1 : ((k : Int) == t) = true := by simpa using p1
                  by_cases p2 : (j : Int) = i
                  · have q2 : ((j : Int) == i) = true := by simpa using p2
                    have ow := half_own (k := k) (j := j) HLN.out p0 p1 p2
                    obtain ⟨o1, o2, o3, o4, _⟩ := dec_back (putE_zero.1 p0).2
                    rw [ow, o1] at c0
                    rw [ow, o2] at c1
                    rw [ow, o3] at c2
                    rw [ow, o4] at c3
                    have t1 : (v == v) = true := by simp
                    have t2 : (l == l) = true := by simp
                    have t3 : (r == r) = true := by simp
                    have t4 : (f == f) = true := by simp
                    clear ow o1 o2 o3 o4 p0 p1 p2
                    go_wp2_with fail
                    go_quiet (fail)
                    go_wp2_with fail
                    go_roundw
                    case rel => exact ⟨j + 1, by omega, by go_num, _, rfl⟩
                    case measure => simp [intOf]; omega
                  · have q2 : ((j : Int) == i) = false := by simpa using p2
                    have he := half_else (t := t) (i := i) (v := v) (l := l) (r := r) (f := f) (k := k) HLN.out hj32 (fun e => p2 e.2.2)
                    rw [he] at c0 c1 c2 c3
                    have t1 : (dv (half bs k j) == dv (half bs k j)) = true := by simp
                    have t2 : (dl (half bs k j) == dl (half bs k j)) = true := by simp
                    have t3 : (dr (half bs k j) == dr (half bs k j)) = true := by simp
                    have t4 : (df (half bs k j) == df (half bs k j)) = true := by simp
                    clear he
                    clear p0 p1 p2
                    go_wp2_with fail
                    go_quiet (fail)
                    go_wp2_with fail
                    go_roundw
                    case rel => exact ⟨j + 1, by omega, by go_num, _, rfl⟩
                    case measure => simp [intOf]; omega
                · have q1 : ((k : Int) == t) = false := by simpa using p1
                  have he := half_else (t := t) (i := i) (v := v) (l := l) (r := r) (f := f) (k := k) HLN.out hj32 (fun e => p1 e.2.1)
                  rw [he] at c0 c1 c2 c3
                  have t1 : (dv (half bs k j) == dv (half bs k j)) = true := by simp
                  have t2 : (dl (half bs k j) == dl (half bs k j)) = true := by simp
                  have t3 : (dr (half bs k j) == dr (half bs k j)) = true := by simp
                  have t4 : (df (half bs k j) == df (half bs k j)) = true := by simp
                  clear he
                  clear p0 p1
                  go_wp2_with fail
                  go_quiet (fail)
                  go_wp2_with fail
                  go_roundw
                  case rel => exact ⟨j + 1, by omega, by go_num, _, rfl⟩
                  case measure => simp [intOf]; omega
              · have q0 : (putE t i 3 v l r f == 0) = false := by simpa using p0
                have he := half_else (t := t) (i := i) (v := v) (l := l) (r := r) (f := f) (k := k) HLN.out hj32 (fun e => p0 e.1)
                rw [he] at c0 c1 c2 c3
                have t1 : (dv (half bs k j) == dv (half bs k j)) = true := by simp
                have t2 : (dl (half bs k j) == dl (half bs k j)) = true := by simp
                have t3 : (dr (half bs k j) == dr (half bs k j)) = true := by simp
                have t4 : (df (half bs k j) == df (half bs k j)) = true := by simp
                clear he
                clear p0
                go_wp2_with fail
                go_quiet (fail)
                go_wp2_with fail
                go_roundw
                case rel => exact ⟨j + 1, by omega, by go_num, _, rfl⟩
                case measure => simp [intOf]; omega
            · obtain rfl : j = 32 := by omega
              clear eg eg' x0 x1 x2 x3 b0
              go_wp2_with fail
              go_roundw
              case rel => exact ⟨k + 1, by omega, by go_num, fk.trans (fr_drewN _ _), xb.keep (fr_drewN _ _) (fun h => h), rm.keep (fr_drewN _ _) (fun h => h) (fun h => h), bq.keep (fr_drewN _ _) (fun _ _ h => h)⟩
              case measure => simp [intOf]; omega
        · obtain rfl : k = 3 := by omega
          go_wp2_with fail
          go_ret
          exact ⟨rfl, fk⟩

set_option maxRecDepth 100000 in
set_option maxHeartbeats 4000000 in
theorem only_row (b o len cap : Nat) (t i : Int) (v l : Bool) (r f : Int) (w : World) (hl : len ≤ 9223372036854775807) (ha : Acts w w.heap.size b o len) :
    Calls Try.prog 7 #[.slice (some ⟨b, o, none⟩) len cap, .int .i64 t, .int .i64 i, .agg #[.bool v, .bool l, .int .i64 r, .int .i64 f]] w fun e w' => e = .returned (.bool true) ∧ Fr none' w w' := by
  have f0 := (Fr.refl none' w).alloc (.cells (ebox v l r f) 23)
  have xb := row_alloc w (ebox v l r f) 23
  have z0 : (w.alloc (.cells (ebox v l r f) 23)).heap.size = w.heap.size + 1 := by simp
  unfold ebox at f0 z0
  go_enter Try.func7, Try.ntmps7
  go_wp2_with fail
  refine (awake_any _).mono ?_
  rintro e w1 ⟨rfl, f1⟩
  have z1 : w.heap.size + 1 ≤ w1.heap.size := by have := f1.size; omega
  replace xb := xb.keep f1 (fun h => h)
  replace f1 := f0.trans f1
  clear f0 z0
  go_wp2_with fail
  refine (new_nat 3 _ (by omega) (by omega)).mono ?_
  rintro e w2 ⟨rfl, f2, r2⟩
  go_wp2_with fail
  refine (rnew_nat 3 _ (by omega) (by omega)).mono ?_
  rintro e w3 ⟨rfl, f3, r3⟩
  have t3 := twin_new (B := w.heap.size + 1) z1 r2 f3 r3
  have z2 := r2.head.lt
  replace xb := (xb.keep f2 (fun h => h)).keep f3 (fun h => h)
  replace f3 := (f1.trans f2).trans f3
  have HG : Hid (Good (List.replicate (64 * 3) (0 : UInt8)) 3) := good_zeros _ _
  clear f1 f2 r2 r3
  generalize List.replicate (64 * 3) (0 : UInt8) = bs0 at *
  go_wp2_with fail
  go_loopw [14] (fun i wr => ∃ k : Nat, k ≤ len ∧ k ≤ 60 ∧ i = .int .i64 k ∧ Fr none' w wr ∧ Row wr w.heap.size (ebox v l r f) 23 ∧ ∃ bs, Twin wr (w.heap.size + 1) (w1.heap.size + 1) w1.heap.size (w2.heap.size + 1) w2.heap.size 3 bs ∧ Hid (Good bs 3)) (fun i _ => len - (intOf i).toNat)
  case atStart => exact ⟨0, by omega, by omega, rfl, f3, xb, _, t3, HG⟩
  case round =>
    clear f3 t3 xb HG
    obtain ⟨k, hk, hk3, rfl, fk, xb, bs, tk, HG⟩ := hrel
    by_cases hlt : k < len
    · have s1 : decide ((k : Int) < (len : Int)) = true := by simp; omega
      by_cases hlt3 : k < 60
      · have s2 : decide ((k : Int) < 60) = true := by simp; omega
        have i1 : 0 ≤ (k : Int) ∧ (k : Int) < (len : Int) := by omega
        obtain ⟨dO, t', j', v', l', r', f', x', hA⟩ := ha.each k hlt
        have hA' := hA.keep fk (fun h => h)
        obtain ⟨e0, e1, e2, e3, e4, e5, e6, e7, ew⟩ := hA'
        clear hA
        by_cases hd : dO = 1
        · subst hd
          have z4 := tk.lo
          have HLN : Hid (bs.length = 64 * 3) := tk.ram.len
          go_wp2_with fail
          refine (does_put _ _ _ _ _ _ _ _ tk _ _ _ _ _ _ _).mono ?_
          rintro e w4 ⟨rfl, f4, t4⟩
          have f5 := fk.own f4 (by omega) (by omega)
          have xb4 := xb.keep f4 (show ¬ two w1.heap.size w2.heap.size w.heap.size by unfold two; omega)
          have HG4 : Hid (Good (putB bs t' j' 3 v' l' r' f') 3) := good_put HLN.out HG.out
          clear fk f4 tk e0 e1 e2 e3 e4 e5 e6 e7 xb HG
          go_wp2_with fail
          go_roundw
          case rel => exact ⟨k + 1, by omega, by omega, by go_num, f5, xb4, _, t4, HG4⟩
          case measure => simp [intOf]; omega
        · have nd : (dO == 1) = false := by simpa using hd
          clear hd
          go_wp2_with fail
          go_roundw
          case rel => exact ⟨k + 1, by omega, by omega, by go_num, fk, xb, _, tk, HG⟩
          case measure => simp [intOf]; omega
      · have s2 : decide ((k : Int) < 60) = false := by simp; omega
        obtain ⟨w4, rfl⟩ : ∃ w4, w4 = wr := ⟨wr, rfl⟩
        have bq0 := bef_new w4 bs
        have xb4 := xb.alloc (.cells #[.slice none 0 0, .slice none 0 0, .slice none 0 0] 53)
        have t4 := tk.keep0 ((Fr.refl none' w4).alloc (.cells #[.slice none 0 0, .slice none 0 0, .slice none 0 0] 53))
        have f4 := fk.alloc (.cells #[.slice none 0 0, .slice none 0 0, .slice none 0 0] 53)
        have z4 := tk.lt
        have z5 := tk.lo
        have HLN : Hid (bs.length = 64 * 3) := tk.ram.len
        clear tk fk xb
        go_wp2_with fail
        go_loopw [16] (fun i wq => ∃ k : Nat, k ≤ 3 ∧ i = .int .i64 k ∧ Fr none' w wq ∧ Row wq w.heap.size (ebox v l r f) 23 ∧ Twin wq (w.heap.size + 1) (w1.heap.size + 1) w1.heap.size (w2.heap.size + 1) w2.heap.size 3 bs ∧ Bef wq w4.heap.size k bs) (fun i _ => 3 - (intOf i).toNat)
        case atStart => exact ⟨0, by omega, rfl, f4, xb4, t4, bq0⟩
        case round =>
          clear bq0 xb4 t4 f4
          obtain ⟨k, hk, rfl, fk, xb, tk, bq⟩ := hrel
          by_cases hk3 : k < 3
          · go_wp2_with fail
            refine (tab_good _ _ _ _ _ _ tk.ram hk3 HG).mono ?_
            rintro e w5 ⟨g, cap, rfl, hg, f5, eg⟩
            have zq := bq.lt
            replace xb := xb.keep f5 (fun h => h)
            replace tk := tk.keep0 f5
            replace bq := bq.keep f5 (fun _ _ h => h)
            replace fk := fk.trans f5
            clear f5
            obtain ⟨y, c0⟩ := bq.any k hk3
            have c1 := bq.frozen k
            have i1 : 0 ≤ (k : Int) ∧ (k : Int) < 3 := by omega
            have u1 := bq.set hk3 (show w4.heap.size < g by omega) eg
            have u2 := xb.setCell_other (p := ⟨w4.heap.size, k, none⟩) (show w4.heap.size ≠ w.heap.size by omega) (.slice (some ⟨g, 0, none⟩) 32 cap)
            have u3 := tk.keep (fr_set w5 w4.heap.size k (.slice (some ⟨g, 0, none⟩) 32 cap) (Fr.refl _ _)) (show ¬ at' w4.heap.size _ by unfold at'; omega) (show ¬ at' w4.heap.size _ by unfold at'; omega) (show ¬ at' w4.heap.size _ by unfold at'; omega) (show ¬ at' w4.heap.size _ by unfold at'; omega)
            have u4 := fk.setCell (p := ⟨w4.heap.size, k, none⟩) (Or.inl (show w.heap.size ≤ w4.heap.size by omega)) (.slice (some ⟨g, 0, none⟩) 32 cap)
            clear bq xb tk fk eg
            go_wp2_with fail
            go_roundw
            case rel => exact ⟨k + 1, by omega, by go_num, u4, u2, u3, u1⟩
            case measure => simp [intOf]; omega
          · obtain rfl : k = 3 := by omega
            obtain ⟨x0, x1, x2, x3⟩ := ebox_cells xb
            go_wp2_with fail
            refine (put_any _ _ _ _ _ _ _ _ _ _ _ tk.ram).mono ?_
            rintro e w6 ⟨rfl, f6, rm⟩
            replace xb := xb.keep f6 (show ¬ at' w1.heap.size w.heap.size by unfold at'; omega)
            replace bq := bq.keep f6 (fun q hq e => by unfold at' at e; omega)
            replace fk := fk.newer f6 (by omega)
            have HG2 : Hid (Good (putB bs t i 3 v l r f) 3) := good_put HLN.out HG.out
            clear f6 tk x0 x1 x2 x3
            go_wp2_with fail
            go_loopw [20] (fun i' wq => ∃ k : Nat, k ≤ 3 ∧ i' = .int .i64 k ∧ Fr none' w wq ∧ Row wq w.heap.size (ebox v l r f) 23 ∧ IsRam wq (w1.heap.size + 1) w1.heap.size 3 (putB bs t i 3 v l r f) ∧ Bef wq w4.heap.size 3 bs) (fun i' _ => 3 - (intOf i').toNat)
            case atStart => exact ⟨0, by omega, rfl, fk, xb, rm, bq⟩
            case round =>
              clear xb rm bq fk
              obtain ⟨k, hk, rfl, fk, xb, rm, bq⟩ := hrel
              by_cases hk3 : k < 3
              · go_wp2_with fail
                refine (tab_good _ _ _ _ _ _ rm hk3 HG2).mono ?_
                rintro e w7 ⟨g, cap, rfl, hg, f7, eg⟩
                replace xb := xb.keep f7 (fun h => h)
                replace rm := rm.keep f7 (fun h => h) (fun h => h)
                replace bq := bq.keep f7 (fun _ _ h => h)
                replace fk := fk.trans f7
                clear f7
                obtain ⟨x0, x1, x2, x3⟩ := ebox_cells xb
                obtain ⟨g', cap', b0, eg'⟩ := bq.at k hk3
                have i1 : 0 ≤ (k : Int) ∧ (k : Int) < 3 := by omega
                go_wp2_with fail
                go_loopw [23] (fun i' wq => ∃ j : Nat, j ≤ 32 ∧ i' = .int .i64 j ∧ ∃ m, wq = w7.drewN m) (fun i' _ => 32 - (intOf i').toNat)
                case atStart => exact ⟨0, by omega, rfl, 0, rfl⟩
                case round =>
                  obtain ⟨j, hj, rfl, m, rfl⟩ := hrel
                  by_cases hj32 : j < 32
                  · have i2 : 0 ≤ (j : Int) ∧ (j : Int) < 32 := by omega
                    obtain ⟨c0, c1, c2, c3⟩ := eg.cells j hj32
                    obtain ⟨d0, d1, d2, d3⟩ := eg'.cells j hj32
                    by_cases p0 : putE t i 3 v l r f = 0
                    · have q0 : (putE t i 3 v l r f == 0) = true := by simpa using p0
                      by_cases p1 : (k : Int) = t
                      · have q1 : ((k : Int) == t) = true := by simpa using p1
                        by_cases p2 : (j : Int) = i
                        · have q2 : ((j : Int) == i) = true := by simpa using p2
                          have ow := half_own (k := k) (j := j) HLN.out p0 p1 p2
                          obtain ⟨o1, o2, o3, o4, _⟩ := dec_back (putE_zero.1 p0).2
                          rw [ow, o1] at c0
                          rw [ow, o2] at c1
                          rw [ow, o3] at c2
                          rw [ow, o4] at c3
                          have t1 : (v == v) = true := by simp
                          have t2 : (l == l) = true := by simp
                          have t3 : (r == r) = true := by simp
                          have t4 : (f == f) = true := by simp
                          clear ow o1 o2 o3 o4 p0 p1 p2
                          go_wp2_with fail
                          go_quiet (fail)
                          go_wp2_with fail
                          go_roundw
                          case rel => exact ⟨j + 1, by omega, by go_num, _, rfl⟩
                          case measure => simp [intOf]; omega
                        · have q2 : ((j : Int) == i) = false := by simpa using p2
                          have he := half_else (t := t) (i := i) (v := v) (l := l) (r := r) (f := f) (k := k) HLN.out hj32 (fun e => p2 e.2.2)
                          rw [he] at c0 c1 c2 c3
                          have t1 : (dv (half bs k j) == dv (half bs k j)) = true := by simp
                          have t2 : (dl (half bs k j) == dl (half bs k j)) = true := by simp
                          have t3 : (dr (half bs k j) == dr (half bs k j)) = true := by simp
                          have t4 : (df (half bs k j) == df (half bs k j)) = true := by simp
                          clear he
                          clear p0 p1 p2
                          go_wp2_with fail
                          go_quiet (fail)
                          go_wp2_with fail
                          go_roundw
                          case rel => exact ⟨j + 1, by omega, by go_num, _, rfl⟩
                          case measure => simp [intOf]; omega
                      · have q1 : ((k : Int) == t) = false := by simpa using p1
                        have he := half_else (t := t) (i := i) (v := v) (l := l) (r := r) (f := f) (k := k) HLN.out hj32 (fun e => p1 e.2.1)
                        rw [he] at c0 c1 c2 c3
                        have t1 : (dv (half bs k j) == dv (half bs k j)) = true := by simp
                        have t2 : (dl (half bs k j) == dl (half bs k j)) = true := by simp
                        have t3 : (dr (half bs k j) == dr (half bs k j)) = true := by simp
                        have t4 : (df (half bs k j) == df (half bs k j)) = true := by simp
                        clear he
                        clear p0 p1
                        go_wp2_with fail
                        go_quiet (fail)
                        go_wp2_with fail
                        go_roundw
                        case rel => exact ⟨j + 1, by omega, by go_num, _, rfl⟩
                        case measure => simp [intOf]; omega
                    · have q0 : (putE t i 3 v l r f == 0) = false := by simpa using p0
                      have he := half_else (t := t) (i := i) (v := v) (l := l) (r := r) (f := f) (k := k) HLN.out hj32 (fun e => p0 e.1)
                      rw [he] at c0 c1 c2 c3
                      have t1 : (dv (half bs k j) == dv (half bs k j)) = true := by simp
                      have t2 : (dl (half bs k j) == dl (half bs k j)) = true := by simp
                      have t3 : (dr (half bs k j) == dr (half bs k j)) = true := by simp
                      have t4 : (df (half bs k j) == df (half bs k j)) = true := by simp
                      clear he
                      clear p0
                      go_wp2_with fail
                      go_quiet (fail)
                      go_wp2_with fail
                      go_roundw
                      case rel => exact ⟨j + 1, by omega, by go_num, _, rfl⟩
                      case measure => simp [intOf]; omega
                  · obtain rfl : j = 32 := by omega
                    clear eg eg' x0 x1 x2 x3 b0
                    go_wp2_with fail
                    go_roundw
                    case rel => exact ⟨k + 1, by omega, by go_num, fk.trans (fr_drewN _ _), xb.keep (fr_drewN _ _) (fun h => h), rm.keep (fr_drewN _ _) (fun h => h) (fun h => h), bq.keep (fr_drewN _ _) (fun _ _ h => h)⟩
                    case measure => simp [intOf]; omega
              · obtain rfl : k = 3 := by omega
                go_wp2_with fail
                go_ret
                exact ⟨rfl, fk⟩
    · have s1 : decide ((k : Int) < (len : Int)) = false := by simp; omega
      obtain ⟨w4, rfl⟩ : ∃ w4, w4 = wr := ⟨wr, rfl⟩
      have bq0 := bef_new w4 bs
      have xb4 := xb.alloc (.cells #[.slice none 0 0, .slice none 0 0, .slice none 0 0] 53)
      have t4 := tk.keep0 ((Fr.refl none' w4).alloc (.cells #[.slice none 0 0, .slice none 0 0, .slice none 0 0] 53))
      have f4 := fk.alloc (.cells #[.slice none 0 0, .slice none 0 0, .slice none 0 0] 53)
      have z4 := tk.lt
      have z5 := tk.lo
      have HLN : Hid (bs.length = 64 * 3) := tk.ram.len
      clear tk fk xb
      go_wp2_with fail
      go_loopw [16] (fun i wq => ∃ k : Nat, k ≤ 3 ∧ i = .int .i64 k ∧ Fr none' w wq ∧ Row wq w.heap.size (ebox v l r f) 23 ∧ Twin wq (w.heap.size + 1) (w1.heap.size + 1) w1.heap.size (w2.heap.size + 1) w2.heap.size 3 bs ∧ Bef wq w4.heap.size k bs) (fun i _ => 3 - (intOf i).toNat)
      case atStart => exact ⟨0, by omega, rfl, f4, xb4, t4, bq0⟩
      case round =>
        clear bq0 xb4 t4 f4
        obtain ⟨k, hk, rfl, fk, xb, tk, bq⟩ := hrel
        by_cases hk3 : k < 3
        · go_wp2_with fail
          refine (tab_good _ _ _ _ _ _ tk.ram hk3 HG).mono ?_
          rintro e w5 ⟨g, cap, rfl, hg, f5, eg⟩
          have zq := bq.lt
          replace xb := xb.keep f5 (fun h => h)
          replace tk := tk.keep0 f5
          replace bq := bq.keep f5 (fun _ _ h => h)
          replace fk := fk.trans f5
          clear f5
          obtain ⟨y, c0⟩ := bq.any k hk3
          have c1 := bq.frozen k
          have i1 : 0 ≤ (k : Int) ∧ (k : Int) < 3 := by omega
          have u1 := bq.set hk3 (show w4.heap.size < g by omega) eg
          have u2 := xb.setCell_other (p := ⟨w4.heap.size, k, none⟩) (show w4.heap.size ≠ w.heap.size by omega) (.slice (some ⟨g, 0, none⟩) 32 cap)
          have u3 := tk.keep (fr_set w5 w4.heap.size k (.slice (some ⟨g, 0, none⟩) 32 cap) (Fr.refl _ _)) (show ¬ at' w4.heap.size _ by unfold at'; omega) (show ¬ at' w4.heap.size _ by unfold at'; omega) (show ¬ at' w4.heap.size _ by unfold at'; omega) (show ¬ at' w4.heap.size _ by unfold at'; omega)
          have u4 := fk.setCell (p := ⟨w4.heap.size, k, none⟩) (Or.inl (show w.heap.size ≤ w4.heap.size by omega)) (.slice (some ⟨g, 0, none⟩) 32 cap)
          clear bq xb tk fk eg
          go_wp2_with fail
          go_roundw
          case rel => exact ⟨k + 1, by omega, by go_num, u4, u2, u3, u1⟩
          case measure => simp [intOf]; omega
        · obtain rfl : k = 3 := by omega
          obtain ⟨x0, x1, x2, x3⟩ := ebox_cells xb
          go_wp2_with fail
          refine (put_any _ _ _ _ _ _ _ _ _ _ _ tk.ram).mono ?_
          rintro e w6 ⟨rfl, f6, rm⟩
          replace xb := xb.keep f6 (show ¬ at' w1.heap.size w.heap.size by unfold at'; omega)
          replace bq := bq.keep f6 (fun q hq e => by unfold at' at e; omega)
          replace fk := fk.newer f6 (by omega)
          have HG2 : Hid (Good (putB bs t i 3 v l r f) 3) := good_put HLN.out HG.out
          clear f6 tk x0 x1 x2 x3
          go_wp2_with fail
          go_loopw [20] (fun i' wq => ∃ k : Nat, k ≤ 3 ∧ i' = .int .i64 k ∧ Fr none' w wq ∧ Row wq w.heap.size (ebox v l r f) 23 ∧ IsRam wq (w1.heap.size + 1) w1.heap.size 3 (putB bs t i 3 v l r f) ∧ Bef wq w4.heap.size 3 bs) (fun i' _ => 3 - (intOf i').toNat)
          case atStart => exact ⟨0, by omega, rfl, fk, xb, rm, bq⟩
          case round =>
            clear xb rm bq fk
            obtain ⟨k, hk, rfl, fk, xb, rm, bq⟩ := hrel
            by_cases hk3 : k < 3
            · go_wp2_with fail
              refine (tab_good _ _ _ _ _ _ rm hk3 HG2).mono ?_
              rintro e w7 ⟨g, cap, rfl, hg, f7, eg⟩
              replace xb := xb.keep f7 (fun h => h)
              replace rm := rm.keep f7 (fun h => h) (fun h => h)
              replace bq := bq.keep f7 (fun _ _ h => h)
              replace fk := fk.trans f7
              clear f7
              obtain ⟨x0, x1, x2, x3⟩ := ebox_cells xb
              obtain ⟨g', cap', b0, eg'⟩ := bq.at k hk3
              have i1 : 0 ≤ (k : Int) ∧ (k : Int) < 3 := by omega
              go_wp2_with fail
              go_loopw [23] (fun i' wq => ∃ j : Nat, j ≤ 32 ∧ i' = .int .i64 j ∧ ∃ m, wq = w7.drewN m) (fun i' _ => 32 - (intOf i').toNat)
              case atStart => exact ⟨0, by omega, rfl, 0, rfl⟩
              case round =>
                obtain ⟨j, hj, rfl, m, rfl⟩ := hrel
                by_cases hj32 : j < 32
                · have i2 : 0 ≤ (j : Int) ∧ (j : Int) < 32 := by omega
                  obtain ⟨c0, c1, c2, c3⟩ := eg.cells j hj32
                  obtain ⟨d0, d1, d2, d3⟩ := eg'.cells j hj32
                  by_cases p0 : putE t i 3 v l r f = 0
                  · have q0 : (putE t i 3 v l r f == 0) = true := by simpa using p0
                    by_cases p1 : (k : Int) = t
                    · have q1 : ((k : Int) == t) = true := by simpa using p1
                      by_cases p2 : (j : Int) = i
                      · have q2 : ((j : Int) == i) = true := by simpa using p2
                        have ow := half_own (k := k) (j := j) HLN.out p0 p1 p2
                        obtain ⟨o1, o2, o3, o4, _⟩ := dec_back (putE_zero.1 p0).2
                        rw [ow, o1] at c0
                        rw [ow, o2] at c1
                        rw [ow, o3] at c2
                        rw [ow, o4] at c3
                        have t1 : (v == v) = true := by simp
                        have t2 : (l == l) = true := by simp
                        have t3 : (r == r) = true := by simp
                        have t4 : (f == f) = true := by simp
                        clear ow o1 o2 o3 o4 p0 p1 p2
                        go_wp2_with fail
                        go_quiet (fail)
                        go_wp2_with fail
                        go_roundw
                        case rel => exact ⟨j + 1, by omega, by go_num, _, rfl⟩
                        case measure => simp [intOf]; omega
                      · have q2 : ((j : Int) == i) = false := by simpa using p2
                        have he := half_else (t := t) (i := i) (v := v) (l := l) (r := r) (f := f) (k := k) HLN.out hj32 (fun e => p2 e.2.2)
                        rw [he] at c0 c1 c2 c3
                        have t1 : (dv (half bs k j) == dv (half bs k j)) = true := by simp
                        have t2 : (dl (half bs k j) == dl (half bs k j)) = true := by simp
                        have t3 : (dr (half bs k j) == dr (half bs k j)) = true := by simp
                        have t4 : (df (half bs k j) == df (half bs k j)) = true := by simp
                        clear he
                        clear p0 p1 p2
                        go_wp2_with fail
                        go_quiet (fail)
                        go_wp2_with fail
                        go_roundw
                        case rel => exact ⟨j + 1, by omega, by go_num, _, rfl⟩
                        case measure => simp [intOf]; omega
                    · have q1 : ((k : Int) == t) = false := by simpa using p1
                      have he := half_else (t := t) (i := i) (v := v) (l := l) (r := r) (f := f) (k := k) HLN.out hj32 (fun e => p1 e.2.1)
                      rw [he] at c0 c1 c2 c3
                      have t1 : (dv (half bs k j) == dv (half bs k j)) = true := by simp
                      have t2 : (dl (half bs k j) == dl (half bs k j)) = true := by simp
                      have t3 : (dr (half bs k j) == dr (half bs k j)) = true := by simp
                      have t4 : (df (half bs k j) == df (half bs k j)) = true := by simp
                      clear he
                      clear p0 p1
                      go_wp2_with fail
                      go_quiet (fail)
                      go_wp2_with fail
                      go_roundw
                      case rel => exact ⟨j + 1, by omega, by go_num, _, rfl⟩
                      case measure => simp [intOf]; omega
                  · have q0 : (putE t i 3 v l r f == 0) = false := by simpa using p0
                    have he := half_else (t := t) (i := i) (v := v) (l := l) (r := r) (f := f) (k := k) HLN.out hj32 (fun e => p0 e.1)
                    rw [he] at c0 c1 c2 c3
                    have t1 : (dv (half bs k j) == dv (half bs k j)) = true := by simp
                    have t2 : (dl (half bs k j) == dl (half bs k j)) = true := by simp
                    have t3 : (dr (half bs k j) == dr (half bs k j)) = true := by simp
                    have t4 : (df (half bs k j) == df (half bs k j)) = true := by simp
                    clear he
                    clear p0
                    go_wp2_with fail
                    go_quiet (fail)
                    go_wp2_with fail
                    go_roundw
                    case rel => exact ⟨j + 1, by omega, by go_num, _, rfl⟩
                    case measure => simp [intOf]; omega
                · obtain rfl : j = 32 := by omega
                  clear eg eg' x0 x1 x2 x3 b0
                  go_wp2_with fail
                  go_roundw
                  case rel => exact ⟨k + 1, by omega, by go_num, fk.trans (fr_drewN _ _), xb.keep (fr_drewN _ _) (fun h => h), rm.keep (fr_drewN _ _) (fun h => h) (fun h => h), bq.keep (fr_drewN _ _) (fun _ _ h => h)⟩
                  case measure => simp [intOf]; omega
            · obtain rfl : k = 3 := by omega
              go_wp2_with fail
              go_ret
              exact ⟨rfl, fk⟩

theorem only_any (a0 : Option Addr) (len cap : Nat) (t i : Int) (v l : Bool) (r f : Int) (w : World) (hl : len ≤ 9223372036854775807) (ha : len = 0 ∨ ∃ b o, a0 = some ⟨b, o, none⟩ ∧ Acts w w.heap.size b o len) :
    Calls Try.prog 7 #[.slice a0 len cap, .int .i64 t, .int .i64 i, .agg #[.bool v, .bool l, .int .i64 r, .int .i64 f]] w fun e w' => e = .returned (.bool true) ∧ Below w.heap.size w w' := by
  have key : Calls Try.prog 7 #[.slice a0 len cap, .int .i64 t, .int .i64 i, .agg #[.bool v, .bool l, .int .i64 r, .int .i64 f]] w fun e w' => e = .returned (.bool true) ∧ Fr none' w w' := by
    rcases ha with rfl | ⟨b, o, rfl, ha⟩
    · exact only_nil cap a0 t i v l r f w
    · exact only_row b o len cap t i v l r f w hl ha
  exact key.mono fun e w' ⟨he, hf⟩ => ⟨he, hf.below (Nat.le_refl _) (fun k h => h.elim)⟩

end Go.Proofs.Ytefjincghkdeiaa
