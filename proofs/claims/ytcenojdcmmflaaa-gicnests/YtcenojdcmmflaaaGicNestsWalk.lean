/-
  GicNests over the translation: whatever acts and numbers came in, the law returns true, and nothing old turns. No statement is proved here.
-/
import Derived.Test.YtcenojdcmmflaaaGicOwn
import Derived.Deep.CutBlock
import Derived.Deep.CutRange
namespace Go.Proofs.Ytcenojdcmmflaaa
open Go.RowKit

theorem wrap_small {n : Int} (h0 : -9223372036854775808 ≤ n) (h1 : n ≤ 9223372036854775807) : IntKind.i64.wrap n = n := by
  simp only [IntKind.wrap, IntKind.bits, IntKind.signed]
  simp
  omega

/-- The active ones of the first k. -/
def actL (T : Nat → Li) : Nat → List Int
  | 0 => []
  | k + 1 => if act (T k) then actL T k ++ [(k : Int)] else actL T k

theorem actL_yes {T : Nat → Li} {k : Nat} (h : act (T k) = true) : actL T (k + 1) = actL T k ++ [(k : Int)] := by simp [actL, h]
theorem actL_no {T : Nat → Li} {k : Nat} (h : act (T k) = false) : actL T (k + 1) = actL T k := by simp [actL, h]

theorem actL_len (T : Nat → Li) (n : Nat) : (actL T n).length ≤ n := by
  induction n with
  | zero => simp [actL]
  | succ k ih => simp only [actL]; split <;> (try simp) <;> omega

theorem actL_mem {T : Nat → Li} {n : Nat} {x : Int} (h : x ∈ actL T n) : ∃ q : Nat, x = (q : Int) ∧ q < n ∧ act (T q) = true := by
  induction n with
  | zero => simp [actL] at h
  | succ k ih =>
    simp only [actL] at h
    split at h
    · rename_i ha
      rcases List.mem_append.1 h with h' | h'
      · obtain ⟨q, e, hq, hc⟩ := ih h'; exact ⟨q, e, by omega, hc⟩
      · simp at h'; exact ⟨k, h', by omega, ha⟩
    · obtain ⟨q, e, hq, hc⟩ := ih h; exact ⟨q, e, by omega, hc⟩

theorem actL_nil {T : Nat → Li} {n : Nat} (h : actL T n = []) : ∀ j, j < n → act (T j) = false := by
  induction n with
  | zero => intro j hj; omega
  | succ k ih =>
    cases ha : act (T k) with
    | true => rw [actL_yes ha] at h; simp at h
    | false =>
      rw [actL_no ha] at h
      intro j hj
      by_cases e : j = k
      · subst e; exact ha
      · exact ih h j (by omega)

theorem actL_ge {T : Nat → Li} {q : Nat} {l : Li} {n : Nat} (h : n ≤ q) : actL (upd T q l) n = actL T n := by
  induction n with
  | zero => rfl
  | succ k ih => simp only [actL]; rw [ih (by omega), upd_other _ _ (by omega)]

theorem actL_end {T : Nat → Li} {q n : Nat} (hq : q < n) (ha : act (T q) = true) : (actL (upd T q (fEnd (T q))) n).length + 1 = (actL T n).length := by
  induction n with
  | zero => omega
  | succ k ih =>
    by_cases e : q = k
    · subst e
      have h1 : act (upd T q (fEnd (T q)) q) = false := by rw [upd_same]; rfl
      rw [actL_no h1, actL_yes ha, actL_ge (Nat.le_refl _)]; simp
    · have h2 : upd T q (fEnd (T q)) k = T k := upd_other _ _ (fun h => e h.symm)
      have := ih (by omega)
      simp only [actL, h2]
      split <;> (try simp) <;> omega

theorem upd_end (T : Nat → Li) (q : Nat) : upd (upd T q (fEnd (T q))) q (fEnd (upd T q (fEnd (T q)) q)) = upd T q (fEnd (T q)) := by
  rw [upd_upd, upd_same]; rfl

/-- The priorities with which the active ones were acknowledged, as the document keeps them. -/
def Srv (w : World) (br : Nat) (T : Nat → Li) : Prop := ∃ cs, Row w br cs 37 ∧ ∀ j, j < 32 → ∃ sv : Int, cs[128 + j]? = some (.int .i64 sv) ∧ (act (T j) = true → sv = (T j).s)

theorem Srv.keep {S : Nat → Prop} {w w' : World} {br : Nat} {T : Nat → Li} (h : Srv w br T) (f : Fr S w w') (hs : ¬ S br) : Srv w' br T := by
  obtain ⟨cs, hr, h⟩ := h; exact ⟨cs, hr.keep f hs, h⟩

theorem Srv.cell {w : World} {br : Nat} {T : Nat → Li} (h : Srv w br T) (j : Nat) (hj : j < 32) : ∃ sv : Int, w.cell? ⟨br, 128 + j, none⟩ = some (.int .i64 sv) ∧ (act (T j) = true → sv = (T j).s) := by
  obtain ⟨cs, hr, h⟩ := h
  obtain ⟨sv, hc, he⟩ := h j hj
  exact ⟨sv, (hr.cell _).trans hc, he⟩

theorem Srv.fin {w : World} {br : Nat} {T : Nat → Li} (h : Srv w br T) (q : Nat) : Srv w br (upd T q (fEnd (T q))) := by
  obtain ⟨cs, hr, h⟩ := h
  refine ⟨cs, hr, fun j hj => ?_⟩
  obtain ⟨sv, hc, he⟩ := h j hj
  refine ⟨sv, hc, fun ha => ?_⟩
  by_cases e : j = q
  · subst e; rw [upd_same] at ha; simp [act, fEnd] at ha
  · rw [upd_other _ _ e] at ha ⊢; exact he ha

theorem srv_of {w : World} {br : Nat} {T : Nat → Li} {m : Int} (h : IsRef w br T m) : Srv w br T := by
  obtain ⟨cs, hr, _, he, _⟩ := h; exact ⟨cs, hr, fun j hj => (he j hj).2.2.2.2⟩

theorem srv_apart {w : World} {B b : Nat} {v : Value} {L : List Int} {T : Nat → Li} (h : OwnI w B v L) (r : Srv w b T) : some b ≠ v.ownBlock := by
  obtain ⟨cs, hr, _⟩ := r; exact h.apart hr (by decide)

theorem own_apart {w : World} {B b : Nat} {v : Value} {L : List Int} {T : Nat → Li} {m : Int} (h : OwnI w B v L) (r : IsGic w b T m) : some b ≠ v.ownBlock := by
  obtain ⟨cs, hr, _⟩ := r; exact h.apart hr (by decide)

theorem OwnI.cell {w : World} {g : Nat} {cur : Array Value} {L : List Int} (r : Row w g cur 3) (hj : ∀ (j : Nat) (x : Int), L[j]? = some x → cur[j]? = some (Value.int .i64 x)) {a : Nat} {x : Int} (h : L[a]? = some x) : w.cell? ⟨g, a, none⟩ = some (.int .i64 x) :=
  (r.cell a).trans (hj a x h)

set_option maxRecDepth 100000 in
set_option maxHeartbeats 4000000 in
theorem nests_row (a0 : Option Addr) (len cap : Nat) (a1 : Option Addr) (lp cp : Nat) (w : World) (hl : len ≤ 9223372036854775807) (ha : Acts w a0 len) (_hlp : lp ≤ 9223372036854775807) (hp : Nums w a1 lp) :
    Calls Try.prog 7 #[.slice a0 len cap, .slice a1 lp cp] w fun e w' => e = .returned (.bool true) ∧ Fr none' w w' := by
  have HA : Hid (Acts w a0 len) := ha
  have HP : Hid (Nums w a1 lp) := hp
  clear ha hp
  go_enter Try.func7, Try.ntmps7
  go_wp2_with fail
  refine (awake_any _).mono ?_
  rintro e w1 ⟨rfl, f1⟩
  go_wp2_with fail
  refine (new_any _).mono ?_
  rintro e w2 ⟨bt, rfl, hb, f2, t2⟩
  replace f2 := f1.trans f2
  replace hb := Nat.le_trans f1.size hb
  go_wp2_with fail
  refine (rnew_any _).mono ?_
  rintro e w3 ⟨br, rfl, hr, f3, t3⟩
  have p2 : Pair w3 w.heap.size bt br (fun _ => zi) 256 := ⟨hb, Nat.le_trans f2.size hr, Nat.ne_of_lt (Nat.lt_of_lt_of_le t2.lt hr), t2.keep f3 (fun h => h), t3, good_zero⟩
  have HB := hid hb
  replace f2 := f2.trans f3
  clear f1 t2 t3 f3 hb hr
  go_upto_block 0 with fail
  go_cut [8] from 25 to 41 (fun s wx => ∃ (T : Nat → Li) (m : Int), Fr none' w wx ∧ Pair wx w.heap.size bt br T m)
  case first =>
    go_wp2_with fail
    go_loopw [8] (fun i wr => ∃ (k : Nat) (T : Nat → Li) (m : Int), k ≤ len ∧ k ≤ 100 ∧ i = .int .i64 k ∧ Fr none' w wr ∧ Pair wr w.heap.size bt br T m) (fun i _ => 100 - (intOf i).toNat)
    case atStart => exact ⟨0, fun _ => zi, 256, by omega, by omega, rfl, f2, p2⟩
    case round =>
      clear f2 p2
      obtain ⟨k, T, m, hk1, hk2, rfl, fk, pk⟩ := hrel
      by_cases hkl : k < len
      · by_cases hk3 : k < 100
        · obtain ⟨b, o, d, n, x, on, rfl, hact⟩ := HA.out k hkl
          obtain ⟨c0, c1, c2, c3⟩ := hact.keep fk (fun h => h)
          have i1 : 0 ≤ (k : Int) ∧ (k : Int) < (len : Int) := by omega
          have u1 : decide ((k : Int) < (len : Int)) = true := decide_eq_true (by omega)
          have u2 : decide ((k : Int) < 100) = true := decide_eq_true (by omega)
          go_wp2_with fail
          refine (does_any _ _ _ _ _ _ pk d n x on).mono ?_
          rintro e w5 ⟨rfl, f5, p5⟩
          replace f5 := fk.pair f5 pk.new1 pk.new2
          clear c0 c1 c2 c3 hact fk pk
          go_wp2_with fail
          go_roundw
          case rel => exact ⟨k + 1, stepT d n x on T m, stepM d x m, by omega, by omega, by go_num, f5, p5⟩
          case measure => simp [intOf]; omega
        · have u1 : decide ((k : Int) < (len : Int)) = true := decide_eq_true (by omega)
          have u2 : decide ((k : Int) < 100) = false := decide_eq_false (by omega)
          go_wp2_with fail
          go_meet
          exact ⟨T, m, fk, pk⟩
      · have u1 : decide ((k : Int) < (len : Int)) = false := decide_eq_false (by omega)
        go_wp2_with fail
        go_meet
        exact ⟨T, m, fk, pk⟩
  case rest =>
  clear f2 p2 HA
  obtain ⟨T, m, fk, pk⟩ := hcut
  have hne := pk.ne
  have s0 := srv_of pk.ref
  have t0 := pk.gic
  clear pk
  go_wp2_with fail
  go_loopw [9] (fun i wr => ∃ (k : Nat) (T : Nat → Li), k ≤ 32 ∧ i = .int .i64 k ∧ Fr none' w wr ∧ IsGic wr bt T m ∧ Hid (Srv wr br T ∧ (actL T 32).length ≤ 32 - k)) (fun i _ => 32 - (intOf i).toNat)
  case atStart => exact ⟨0, T, by omega, rfl, fk, t0, hid ⟨s0, actL_len T 32⟩⟩
  case round =>
    clear fk t0 s0
    obtain ⟨k, T, hk, rfl, fk, tk, HS⟩ := hrel
    obtain ⟨w4, hw4⟩ : ∃ w4, w4 = wr := ⟨wr, rfl⟩
    subst hw4
    by_cases hlt : k < 32
    · have uk : decide ((k : Int) < 32) = true := decide_eq_true (by omega)
      go_wp2_with fail
      go_loopw [10, 11, 12] (fun a le i wr => ∃ j : Nat, j ≤ 32 ∧ le = .int .i64 (runN T j) ∧ i = .int .i64 j ∧ Fr none' w wr ∧ IsGic wr bt T m ∧ Hid (Srv wr br T) ∧ OwnI wr w.heap.size a (actL T j)) (fun _ _ i _ => 32 - (intOf i).toNat)
      case atStart => exact ⟨0, by omega, rfl, rfl, fk, tk, hid HS.out.1, own_nil _ _⟩
      case round =>
        clear fk tk
        obtain ⟨j, hj, rfl, rfl, fj, tj, SJ, oj⟩ := hrel
        by_cases hjl : j < 32
        · have uj : decide ((j : Int) < 32) = true := decide_eq_true (by omega)
          have i1 : 0 ≤ (j : Int) ∧ (j : Int) < 32 := by omega
          have H := state_in _ _ _ _ tj j hjl
          unfold lrc at H
          have hle := (runN_le T j).1
          cases hact : act (T j) with
          | false =>
            rw [hact] at H
            have hs : runN T (j + 1) = runN T j := by
              have : (T j).s = 256 := by simpa [act] using hact
              simp only [runN]; omega
            have HL := hid (actL_no hact)
            clear hact hle
            go_wp2_with fail
            refine H.mono ?_
            rintro e w5 ⟨rfl, f5⟩
            have fa := f5.alloc (.cells #[.int .i64 (j : Int), .int .i64 (T j).p, .bool (T j).en, .bool (T j).pe, .bool false] 39)
            clear H f5
            go_wp2_with fail
            go_roundw
            case rel => exact ⟨j + 1, by omega, by rw [hs], by go_num, fj.trans fa, tj.keep fa (fun h => h), hid (SJ.out.keep fa (fun h => h)), by rw [HL.out]; exact oj.keep0 fa⟩
            case measure => simp [intOf]; omega
          | true =>
            rw [hact] at H
            have HL := hid (actL_yes hact)
            go_wp2_with fail
            refine H.mono ?_
            rintro e w5 ⟨rfl, f5⟩
            have fa := f5.alloc (.cells #[.int .i64 (j : Int), .int .i64 (T j).p, .bool (T j).en, .bool (T j).pe, .bool true] 39)
            have g0 := fa.alloc (.cells #[.int .i64 (j : Int)] 3)
            obtain ⟨v', w6, HR, f6, o6⟩ := append_int ((w5.alloc (.cells #[.int .i64 (j : Int), .int .i64 (T j).p, .bool (T j).en, .bool (T j).pe, .bool true] 39)).alloc (.cells #[.int .i64 (j : Int)] 3)) w.heap.size ⟨w5.heap.size + 1, 0, none⟩ u10 (actL T j) (j : Int) (by have := fj.size; have := g0.size; omega) (oj.keep0 g0) (by have := actL_len T j; omega) (by rw [add_lit']; exact (row_alloc1 w5 _ _ _).cell 0)
            have t6 := (tj.keep g0 (fun h => h)).keep f6 (own_apart (oj.keep0 g0) (tj.keep g0 (fun h => h)))
            have s6 := (SJ.out.keep g0 (fun h => h)).keep f6 (srv_apart (oj.keep0 g0) (SJ.out.keep g0 (fun h => h)))
            obtain ⟨sv, hsc, hse⟩ := s6.cell j hjl
            obtain rfl := hse hact
            have F6 : Hid (Fr none' w w6) := (fj.trans g0).own f6 (oj.keep0 g0)
            have T6 := hid t6
            have S6 := hid s6
            have O6 := hid o6
            clear H f5 fa g0 f6 o6 t6 s6 hse hact hle oj tj fj SJ
            go_wp2_with (at_builtin; refine wpList_append_run rfl _ _ _ rfl _ _ rfl rfl _ _ HR ?_)
            go_roundw
            case rel => exact ⟨j + 1, by omega, by simp only [runN, min_go], by go_num, F6.out, T6.out, S6, by rw [HL.out]; exact O6.out⟩
            case measure => simp [intOf]; omega
        · obtain rfl : j = 32 := by omega
          have uj : decide ((32 : Int) < 32) = false := by decide
          have ur : (runN T 32 != runN T 32) = false := by simp
          have R := running_any _ _ _ _ tj
          unfold run at R
          have hlen := HS.out.2
          have HN := hid hlen
          clear hlen
          by_cases hL : actL T 32 = []
          · obtain rfl : u10 = .slice none 0 0 := oj.2 hL
            have hr := run_none (actL_nil hL)
            unfold run at hr
            have ue : (runN T 32 == 256) = true := by simp [hr]
            clear hL hr oj
            go_wp2_with fail
            refine R.mono ?_
            rintro e w5 ⟨rfl, f5⟩
            have R2 := running_any _ _ _ _ (tj.keep f5 (fun h => h))
            unfold run at R2
            clear R
            go_wp2_with fail
            refine R2.mono ?_
            rintro e w6 ⟨rfl, f6⟩
            go_wp2_with fail
            go_ret
            exact ⟨rfl, (fj.trans f5).trans f6⟩
          · obtain ⟨g, cap', cur, hv, hBg, hrow, hcap, hmax, hcs, hget⟩ := oj.row hL
            have hga : g ≠ bt := fun e => own_apart oj tj (by rw [hv, e]; rfl)
            have hpos : 0 < (actL T 32).length := List.length_pos_iff.mpr hL
            have hmem : ∀ a, a < (actL T 32).length → ∃ q : Nat, (actL T 32)[a]? = some (q : Int) ∧ q < 32 ∧ act (T q) = true := fun a ha => by
              obtain ⟨q, e, hq, hc⟩ := actL_mem (List.getElem_mem ha)
              exact ⟨q, by rw [List.getElem?_eq_getElem ha, e], hq, hc⟩
            have hl32 := actL_len T 32
            have hend : ∀ q, q < 32 → act (T q) = true → (actL (upd T q (fEnd (T q))) 32).length + 1 = (actL T 32).length := fun q hq hc => actL_end hq hc
            obtain ⟨ln, hln⟩ : ∃ ln, (actL T 32).length = ln := ⟨_, rfl⟩
            rw [hln] at hv hpos hmem hl32 hend
            have HN2 : Hid (ln ≤ 32 - k) := by have := HN.out; rw [hln] at this; exact this
            subst hv
            have HM := hid hmem
            have HG := hid hget
            have HE := hid hend
            have e0 : ((ln : Int) == 0) = false := by simp; omega
            have e1 : (ln == 0) = false := by simp; omega
            have e2 : ¬ (ln : Int) = 0 := by omega
            clear hL oj hcap hmax hcs hBg hln hmem hget HN hend
            go_wp2_with fail
            refine R.mono ?_
            rintro e w5 ⟨rfl, f5⟩
            replace fj := fj.trans f5
            replace tj := tj.keep f5 (fun h => h)
            have s5 := hid (SJ.out.keep f5 (fun h => h))
            replace hrow := hrow.keep f5 (fun h => h)
            clear R f5 SJ
            go_upto_if 81 with fail
            go_cut [16] from 42 to 110 (fun s wx => (∃ a : Nat, s = .int .i64 (a : Int) ∧ a < ln) ∧ wx = w5)
            case first =>
              by_cases hkp : k < lp
              · obtain ⟨bp, op, x, rfl, hcell⟩ := HP.out k hkp
                have c0 := cell_keep fj hcell (fun h => h)
                have y1 : 0 ≤ (k : Int) ∧ (k : Int) < (lp : Int) := by omega
                have y2 : decide ((k : Int) < (lp : Int)) = true := decide_eq_true (by omega)
                have y3 : decide (k < lp) = true := decide_eq_true hkp
                have hb1 : -(ln : Int) < x.tmod ln ∧ x.tmod ln < ln := by
                  have h0 : (0 : Int) < ln := by omega
                  have h1 := Int.tmod_lt_of_pos x h0
                  refine ⟨?_, h1⟩
                  rcases Int.le_total 0 x with h | h
                  · have := Int.tmod_nonneg (ln : Int) h; omega
                  · have h3 := Int.tmod_lt_of_pos (-x) h0
                    rw [Int.neg_tmod] at h3; omega
                by_cases hneg : x.tmod ln < 0
                · have u3 : decide (x.tmod ln < 0) = true := decide_eq_true hneg
                  have hw : IntKind.i64.wrap (-(x.tmod ln)) = -(x.tmod ln) := wrap_small (by omega) (by omega)
                  have HB1 := hid (show 0 ≤ -(x.tmod ln) ∧ -(x.tmod ln) < ln by omega)
                  clear hb1 hneg hcell tj hrow
                  go_wp2_with fail
                  go_meet
                  exact ⟨⟨(-(x.tmod ln)).toNat, by have := HB1.out; rw [Int.toNat_of_nonneg this.1], by have := HB1.out; omega⟩, rfl⟩
                · have u3 : decide (x.tmod ln < 0) = false := decide_eq_false hneg
                  have HB1 := hid (show 0 ≤ x.tmod ln ∧ x.tmod ln < ln by omega)
                  clear hb1 hneg hcell tj hrow
                  go_wp2_with fail
                  go_meet
                  exact ⟨⟨(x.tmod ln).toNat, by have := HB1.out; rw [Int.toNat_of_nonneg this.1], by have := HB1.out; omega⟩, rfl⟩
              · have y2 : decide ((k : Int) < (lp : Int)) = false := decide_eq_false (by omega)
                have y3 : decide (k < lp) = false := decide_eq_false hkp
                clear tj hrow
                go_wp2_with fail
                go_meet
                exact ⟨⟨0, rfl, hpos⟩, rfl⟩
            case rest =>
            obtain ⟨⟨a, rfl, hla⟩, rfl⟩ := hcut
            obtain ⟨q, hq, hq32, hqa⟩ := HM.out a hla
            have c0 := OwnI.cell hrow HG.out hq
            have y1 : 0 ≤ (a : Int) ∧ (a : Int) < (ln : Int) := by omega
            have hL : isL (q : Int) = true := isL_iff.mpr (by omega)
            have ee : enE T (q : Int) = 0 := by simp [enE, hL, hqa]
            have T1 : enT T (q : Int) = upd T q (fEnd (T q)) := by unfold enT; rw [ch_in hL]
            have ee2 : enE (upd T q (fEnd (T q))) (q : Int) = 70 := by
              have : act (fEnd (T q)) = false := rfl
              simp [enE, hL, upd_same, this]
            have T2 : enT (upd T q (fEnd (T q))) (q : Int) = upd T q (fEnd (T q)) := by unfold enT; rw [ch_in hL, upd_end]
            have E := end_any _ _ _ _ tj (q : Int)
            rw [ee, T1] at E
            have HC := hid (HE.out q hq32 hqa)
            clear hL ee T1 HM hqa
            go_wp2_with fail
            refine E.mono ?_
            rintro e w6 ⟨rfl, f6, t6⟩
            replace hrow := hrow.keep f6 hga
            have s6 := hid (s5.out.keep f6 (fun e => hne e.symm))
            replace fj := fj.lone f6 HB.out
            clear c0
            have c0 := OwnI.cell hrow HG.out hq
            have E2 := end_any _ _ _ _ t6 (q : Int)
            rw [ee2, T2] at E2
            clear E f6 s5 tj
            go_wp2_with fail
            refine E2.mono ?_
            rintro e w7 ⟨rfl, f7, t7⟩
            have s7 := hid (s6.out.keep f7 (fun e => hne e.symm))
            replace fj := fj.lone f7 HB.out
            clear E2 f7 t6 s6 c0 hrow
            go_wp2_with fail
            go_roundw
            case rel => exact ⟨k + 1, upd T q (fEnd (T q)), by omega, by go_num, fj, t7, hid ⟨s7.out.fin q, by have := HC.out; have := HN2.out; omega⟩⟩
            case measure => simp [intOf]; omega
    · obtain rfl : k = 32 := by omega
      have uk : decide ((32 : Int) < 32) = false := by decide
      have hL : actL T 32 = [] := List.length_eq_zero_iff.mp (by have := HS.out.2; omega)
      have hr := run_none (actL_nil hL)
      have ue : (run T == 256) = true := by simp [hr]
      have R := running_any _ _ _ _ tk
      clear hL hr
      go_wp2_with fail
      refine R.mono ?_
      rintro e w5 ⟨rfl, f5⟩
      go_wp2_with fail
      go_ret
      exact ⟨rfl, fk.trans f5⟩

theorem nests_any (a0 : Option Addr) (len cap : Nat) (a1 : Option Addr) (lp cp : Nat) (w : World) (hl : len ≤ 9223372036854775807) (ha : Acts w a0 len) (hlp : lp ≤ 9223372036854775807) (hp : Nums w a1 lp) :
    Calls Try.prog 7 #[.slice a0 len cap, .slice a1 lp cp] w fun e w' => e = .returned (.bool true) ∧ Below w.heap.size w w' :=
  (nests_row a0 len cap a1 lp cp w hl ha hlp hp).mono fun _ _ ⟨he, hf⟩ => ⟨he, hf.below (Nat.le_refl _) (fun _ h => h.elim)⟩

end Go.Proofs.Ytcenojdcmmflaaa
