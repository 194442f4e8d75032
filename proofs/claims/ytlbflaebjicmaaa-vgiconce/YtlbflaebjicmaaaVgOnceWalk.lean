/-
  VgicOnce over the translation: whatever acts came in, the law returns true, and nothing old turns. No statement is proved here.
-/
import Derived.Test.YtlbflaebjicmaaaVgOnceP
namespace Go.Proofs.Ytlbflaebjicmaaa
open Go.RowKit

theorem LrS.toA {w : World} {B : Nat} {a : Option Addr} {c : Nat} {L : List Lr} (h : LrS w B (.slice a L.length c) L) : LrA w a L := by
  obtain ⟨a', c', e, _, _, h', _⟩ := h.open
  cases e
  exact h'
theorem seenP_step {L : List Lr} {i jj : Nat} {x : Lr} (h : L[i]? = some x) (hj : x.id = (jj : Int)) (j : Nat) : seenP L (i + 1) j = (if x.pe then updI (seenP L i) jj 1 else seenP L i) j := by
  unfold seenP
  rw [seen_step h (fun x => x.pe)]
  cases x.pe with
  | false => simp
  | true =>
    simp only [if_true]
    by_cases e : j = jj
    · subst e; rw [updI_same, if_pos ⟨hj, trivial⟩]
    · rw [updI_other _ _ e, if_neg (fun h => e (by have := h.1; omega))]
theorem seenA_step {L : List Lr} {i jj : Nat} {x : Lr} (h : L[i]? = some x) (hj : x.id = (jj : Int)) (j : Nat) : seenA L (i + 1) j = (if x.ac then updI (seenA L i) jj 1 else seenA L i) j := by
  unfold seenA
  rw [seen_step h (fun x => x.ac)]
  cases x.ac with
  | false => simp
  | true =>
    simp only [if_true]
    by_cases e : j = jj
    · subst e; rw [updI_same, if_pos ⟨hj, trivial⟩]
    · rw [updI_other _ _ e, if_neg (fun h => e (by have := h.1; omega))]
theorem Books.other {w w' : World} {W0 : Nat} {B : Bk} {gi ga ge g : Nat} {S : Vg} {I A E : Nat → Int} (h : Books w W0 B gi ga ge S I A E) (f : Fr (at' g) w w') (h1 : gi ≠ g) (h2 : ga ≠ g) (h3 : ge ≠ g) (h4 : ¬ B.s g) : Books w' W0 B gi ga ge S I A E :=
  ⟨h.vg.keep f (fun k hk e => h4 (by have e' : k = g := e; rwa [e'] at hk)), h.i.keep f h1, h.a.keep f h2, h.e.keep f h3, h.new, h.ne, h.off⟩

theorem wrap_up {x : Int} (h0 : 0 ≤ x) (h1 : x ≤ 1000) : wrap64 (x + 1) = x + 1 := by
  unfold wrap64
  omega

set_option maxRecDepth 100000 in
set_option maxHeartbeats 4000000 in
theorem once_row (lrs : Int) (a0 : Option Addr) (len cap : Nat) (w : World) (hl : len ≤ 9223372036854775807) (ha : Acts w a0 len) :
    Calls Try.prog 5 #[.int .i64 lrs, .slice a0 len cap] w fun e w' => e = .returned (.bool true) ∧ Fr none' w w' := by
  have HA : Hid (Acts w a0 len) := ha
  obtain ⟨Z, hz, hzi⟩ := zero_ints
  have HZ : Hid (∀ w : World, Arr (w.alloc (.cells Z 51)) w.heap.size (fun _ => 0)) := hzi
  clear ha hzi
  go_enter Try.func5, Try.ntmps5
  go_wp2_with fail
  refine (awake_any _).mono ?_
  rintro e w1 ⟨rfl, f1⟩
  go_wp2_with fail
  refine (new_any _ lrs).mono ?_
  rintro e w2 (⟨_, rfl, rfl⟩ | ⟨_, B, rfl, hb, f2, t2⟩)
  · go_wp2_with fail
    go_ret
    exact ⟨rfl, f1⟩
  · have hb0 : ∀ k, B.s k → w.heap.size ≤ k := fun k hk => Nat.le_trans f1.size (hb k hk)
    replace f2 := f1.trans f2
    have p1 := (Fr.refl none' w2).alloc (.cells Z 51)
    have p2 := (Fr.refl none' (w2.alloc (.cells Z 51))).alloc (.cells Z 51)
    have p3 := (Fr.refl none' ((w2.alloc (.cells Z 51)).alloc (.cells Z 51))).alloc (.cells Z 51)
    have z1 := HZ.out w2
    have z2 := HZ.out (w2.alloc (.cells Z 51))
    have z3 := HZ.out ((w2.alloc (.cells Z 51)).alloc (.cells Z 51))
    rw [show (w2.alloc (.cells Z 51)).heap.size = w2.heap.size + 1 by simp] at z2
    rw [show ((w2.alloc (.cells Z 51)).alloc (.cells Z 51)).heap.size = w2.heap.size + 1 + 1 by simp] at z3
    have bk : Books (((w2.alloc (.cells Z 51)).alloc (.cells Z 51)).alloc (.cells Z 51)) w.heap.size B w2.heap.size (w2.heap.size + 1) (w2.heap.size + 1 + 1) (zeroV lrs) (fun _ => 0) (fun _ => 0) (fun _ => 0) :=
      ⟨((t2.keep0 p1).keep0 p2).keep0 p3, (z1.keep p2 (fun h => h)).keep p3 (fun h => h), z2.keep p3 (fun h => h), z3, ⟨f2.size, by have := f2.size; omega, by have := f2.size; omega⟩, ⟨by omega, by omega, by omega⟩, ⟨fun e => by have := t2.lt _ e; omega, fun e => by have := t2.lt _ e; omega, fun e => by have := t2.lt _ e; omega⟩⟩
    have F2 := ((f2.trans p1).trans p2).trans p3
    clear z1 z2 z3 p1 p2 p3 t2 f2 hb f1
    have HB0 : Hid (∀ k, B.s k → w.heap.size ≤ k) := hb0
    clear hb0
    go_wp2_with fail
    generalize w2.heap.size = gi at *
    generalize hga : gi + 1 = ga at *
    generalize hge : ga + 1 = ge at *
    clear hga hge
    go_loopw [11] (fun i wr => ∃ (k : Nat) (S : Vg) (I A E : Nat → Int), k ≤ len ∧ k ≤ 150 ∧ i = .int .i64 k ∧ Fr none' w wr ∧ Books wr w.heap.size B gi ga ge S I A E ∧ Bal S I A E k) (fun i _ => 150 - (intOf i).toNat)
    case atStart => exact ⟨0, _, _, _, _, by omega, by omega, rfl, F2, bk, bal_zero lrs⟩
    case round =>
      clear F2 bk
      obtain ⟨k, S, I, A, E, hk1, hk2, rfl, fk, hK, hbal⟩ := hrel
      have HBal : Hid (Bal S I A E k) := hbal
      clear hbal
      by_cases hin : k < len ∧ k < 150
      · obtain ⟨b0, o, d, n, x, on, rfl, hact⟩ := HA.out k hin.1
        obtain ⟨c0, c1, c2, c3⟩ := hact.keep fk (fun h => h)
        have HAct : Hid (ActIs w b0 (o + k * 4) d n x on) := hact
        have i1 : 0 ≤ (k : Int) ∧ (k : Int) < (len : Int) := by omega
        have u1 : decide ((k : Int) < (len : Int)) = true := decide_eq_true (by omega)
        have u2 : decide ((k : Int) < 150) = true := decide_eq_true (by omega)
        have hA := does_any wr B S hK.vg d n x on
        clear hact
        by_cases hinj : d = 1 ∧ injE S n x = 0
        · obtain ⟨rfl, he⟩ := hinj
          obtain ⟨q, rfl, hq⟩ : ∃ q : Nat, n = (q : Int) ∧ q < 64 := by
            unfold injE at he
            cases hi : isI n with
            | false => rw [hi] at he; simp at he
            | true => exact isI_nat hi
          have hb := bal_inj (on := on) HBal.out he
          have HB1 : Hid (Bal (injS S q x on) (updI I q (I q + 1)) A E (k + 1)) := hb.2
          have hbnd : 0 ≤ I q ∧ I q ≤ 1000 := by
            obtain ⟨y1, y2, y3, y4⟩ := HBal.out q hq
            have := bit_bnd (S.pe q).isSome
            have := bit_bnd (S.ac q).isSome
            omega
          have hw := wrap_up hbnd.1 hbnd.2
          replace hA : Calls Try.prog 12 #[.pointer (some ⟨B.b, 0, none⟩), .agg #[.int .i64 1, .int .i64 (q : Int), .int .i64 x, .bool on]] wr fun e w' => e = .returned (.agg #[.int .i64 0, .bool false, .int .i64 0]) ∧ Chg wr B (injS S q x on) w' := by
            have e1 : ansE 1 (q : Int) x S = 0 := he
            rw [e1] at hA
            exact hA
          generalize injS S q x on = S' at *
          clear hb he
          go_wp2_with fail
          refine hA.mono ?_
          rintro e w5 ⟨rfl, f5, s5⟩
          have fa := (Fr.refl none' w5).alloc (.cells #[.int .i64 0, .bool false, .int .i64 0] 32)
          have r5 := row_alloc w5 #[.int .i64 0, .bool false, .int .i64 0] 32
          have K5 := (hK.chg f5 s5).keep0 fa
          have F5 := (fk.lone f5 HB0.out).trans fa
          have m0 := r5.cell 0
          have m2 := r5.cell 2
          have y0 := K5.i.cell hq
          have y1 := K5.i.frozen q
          have i2 : 0 ≤ (q : Int) ∧ (q : Int) < 64 := by omega
          have HK6 : Hid (Books ((w5.alloc (.cells #[.int .i64 0, .bool false, .int .i64 0] 32)).setCell ⟨gi, q, none⟩ (.int .i64 (I q + 1))) w.heap.size B gi ga ge S' (updI I q (I q + 1)) A E ∧ Fr none' w ((w5.alloc (.cells #[.int .i64 0, .bool false, .int .i64 0] 32)).setCell ⟨gi, q, none⟩ (.int .i64 (I q + 1)))) := ⟨K5.setI hq _, F5.newer (fr_cell _ gi q _) K5.new.1⟩
          clear c0 c1 c2 c3
          obtain ⟨c0, c1, c2, c3⟩ := HAct.out.keep F5 (fun h => h)
          generalize I q = iq at *
          clear hA fk hK f5 s5 fa r5 K5 F5
          go_wp2_with fail
          go_roundw
          case rel => exact ⟨k + 1, S', _, A, E, by omega, by omega, by go_num, HK6.out.2, HK6.out.1, by have := HB1.out; simpa using this⟩
          case measure => simp [intOf]; omega
        · by_cases hack : d = 4 ∧ (nextO S).isSome = true
          · obtain ⟨rfl, hso⟩ := hack
            obtain ⟨q, hn⟩ := Option.isSome_iff_exists.mp hso
            have hq := next_lt hn
            have HB1 : Hid (Bal (ackS S) I (updI A q (A q + 1)) E (k + 1)) := bal_ack HBal.out hn
            have hbnd : 0 ≤ A q ∧ A q ≤ 1000 := by
              obtain ⟨y1, y2, y3, y4⟩ := HBal.out q hq
              have := bit_bnd (S.pe q).isSome
              have := bit_bnd (S.ac q).isSome
              omega
            have hw := wrap_up hbnd.1 hbnd.2
            replace hA : Calls Try.prog 12 #[.pointer (some ⟨B.b, 0, none⟩), .agg #[.int .i64 4, .int .i64 n, .int .i64 x, .bool on]] wr fun e w' => e = .returned (.agg #[.int .i64 (q : Int), .bool false, .int .i64 0]) ∧ Chg wr B (ackS S) w' := by
              have e1 : ansN 4 S = (q : Int) := by show ackA S = _; unfold ackA; rw [hn]
              rw [e1] at hA
              exact hA
            generalize ackS S = S' at *
            clear hinj hso hn
            go_wp2_with fail
            refine hA.mono ?_
            rintro e w5 ⟨rfl, f5, s5⟩
            have fa := (Fr.refl none' w5).alloc (.cells #[.int .i64 (q : Int), .bool false, .int .i64 0] 32)
            have r5 := row_alloc w5 #[.int .i64 (q : Int), .bool false, .int .i64 0] 32
            have K5 := (hK.chg f5 s5).keep0 fa
            have F5 := (fk.lone f5 HB0.out).trans fa
            have m0 := r5.cell 0
            have m2 := r5.cell 2
            have y0 := K5.a.cell hq
            have y1 := K5.a.frozen q
            have i2 : 0 ≤ (q : Int) ∧ (q : Int) < 64 := by omega
            have v1 : ((q : Int) != 1023) = true := by simp; omega
            have v1' : (q != 1023) = true := by simp; omega
            have v2 : decide ((q : Int) < 0) = false := decide_eq_false (by omega)
            have v3 : decide (63 < (q : Int)) = false := decide_eq_false (by omega)
            have v3' : decide (63 < q) = false := decide_eq_false (by omega)
            have HK6 : Hid (Books ((w5.alloc (.cells #[.int .i64 (q : Int), .bool false, .int .i64 0] 32)).setCell ⟨ga, q, none⟩ (.int .i64 (A q + 1))) w.heap.size B gi ga ge S' I (updI A q (A q + 1)) E ∧ Fr none' w ((w5.alloc (.cells #[.int .i64 (q : Int), .bool false, .int .i64 0] 32)).setCell ⟨ga, q, none⟩ (.int .i64 (A q + 1)))) := ⟨K5.setA hq _, F5.newer (fr_cell _ ga q _) K5.new.2.1⟩
            clear c0 c1 c2 c3
            obtain ⟨c0, c1, c2, c3⟩ := HAct.out.keep F5 (fun h => h)
            generalize A q = iq at *
            clear hA fk hK f5 s5 fa r5 K5 F5
            go_wp2_with fail
            go_roundw
            case rel => exact ⟨k + 1, S', I, _, E, by omega, by omega, by go_num, HK6.out.2, HK6.out.1, by have := HB1.out; simpa using this⟩
            case measure => simp [intOf]; omega
          · by_cases hend : d = 5 ∧ endE S n = 0
            · obtain ⟨rfl, he⟩ := hend
              obtain ⟨q, rfl, hq⟩ : ∃ q : Nat, n = (q : Int) ∧ q < 64 := by
                unfold endE at he
                cases hi : isI n with
                | false => rw [hi] at he; simp at he
                | true => exact isI_nat hi
              have hb := bal_end HBal.out he
              have HB1 : Hid (Bal (endS S q) I A (updI E q (E q + 1)) (k + 1)) := hb.2
              have hbnd : 0 ≤ E q ∧ E q ≤ 1000 := by
                obtain ⟨y1, y2, y3, y4⟩ := HBal.out q hq
                have := bit_bnd (S.pe q).isSome
                have := bit_bnd (S.ac q).isSome
                omega
              have hw := wrap_up hbnd.1 hbnd.2
              replace hA : Calls Try.prog 12 #[.pointer (some ⟨B.b, 0, none⟩), .agg #[.int .i64 5, .int .i64 (q : Int), .int .i64 x, .bool on]] wr fun e w' => e = .returned (.agg #[.int .i64 0, .bool (endF S q), .int .i64 0]) ∧ Chg wr B (endS S q) w' := by
                have e1 : ansE 5 (q : Int) x S = 0 := he
                rw [e1] at hA
                exact hA
              generalize endS S q = S' at *
              generalize endF S q = vF at *
              clear hb he hinj hack
              go_wp2_with fail
              refine hA.mono ?_
              rintro e w5 ⟨rfl, f5, s5⟩
              have fa := (Fr.refl none' w5).alloc (.cells #[.int .i64 0, .bool vF, .int .i64 0] 32)
              have r5 := row_alloc w5 #[.int .i64 0, .bool vF, .int .i64 0] 32
              have K5 := (hK.chg f5 s5).keep0 fa
              have F5 := (fk.lone f5 HB0.out).trans fa
              have m0 := r5.cell 0
              have m2 := r5.cell 2
              have y0 := K5.e.cell hq
              have y1 := K5.e.frozen q
              have i2 : 0 ≤ (q : Int) ∧ (q : Int) < 64 := by omega
              have HK6 : Hid (Books ((w5.alloc (.cells #[.int .i64 0, .bool vF, .int .i64 0] 32)).setCell ⟨ge, q, none⟩ (.int .i64 (E q + 1))) w.heap.size B gi ga ge S' I A (updI E q (E q + 1)) ∧ Fr none' w ((w5.alloc (.cells #[.int .i64 0, .bool vF, .int .i64 0] 32)).setCell ⟨ge, q, none⟩ (.int .i64 (E q + 1)))) := ⟨K5.setE hq _, F5.newer (fr_cell _ ge q _) K5.new.2.2⟩
              clear c0 c1 c2 c3
              obtain ⟨c0, c1, c2, c3⟩ := HAct.out.keep F5 (fun h => h)
              generalize E q = iq at *
              clear hA fk hK f5 s5 fa r5 K5 F5
              go_wp2_with fail
              go_roundw
              case rel => exact ⟨k + 1, S', I, A, _, by omega, by omega, by go_num, HK6.out.2, HK6.out.1, by have := HB1.out; simpa using this⟩
              case measure => simp [intOf]; omega
            · have hno : nextO S = none ∨ d ≠ 4 := by
                by_cases h : d = 4
                · left
                  cases hq : nextO S with
                  | none => rfl
                  | some q => exact (hack ⟨h, by rw [hq]; rfl⟩).elim
                · exact Or.inr h
              have HB1 : Hid (Bal (stepS d n x on S) I A E (k + 1)) := bal_same HBal.out d n x on (fun h h' => hinj ⟨h, h'⟩) (fun h => by rcases hno with h' | h'; exact h'; exact (h' h).elim) (fun h h' => hend ⟨h, h'⟩)
              have hcs : (d = 1 ∧ (ansE d n x S == 0) = false) ∨ (d = 4 ∧ ansN d S = 1023) ∨ (d = 5 ∧ (ansE d n x S == 0) = false) ∨ ((d == 1) = false ∧ (d == 4) = false ∧ (d == 5) = false) := by
                by_cases h1 : d = 1
                · left; subst h1; exact ⟨rfl, by show (injE S n x == 0) = false; simp; exact fun h => hinj ⟨rfl, h⟩⟩
                by_cases h4 : d = 4
                · right; left; subst h4; refine ⟨rfl, ?_⟩
                  show ackA S = 1023
                  unfold ackA
                  rcases hno with h' | h'
                  · rw [h']
                  · exact (h' rfl).elim
                by_cases h5 : d = 5
                · right; right; left; subst h5; exact ⟨rfl, by show (endE S n == 0) = false; simp; exact fun h => hend ⟨rfl, h⟩⟩
                · exact Or.inr (Or.inr (Or.inr ⟨by simpa using h1, by simpa using h4, by simpa using h5⟩))
              generalize stepS d n x on S = S' at *
              generalize ansN d S = vN at *
              generalize ansF d n S = vF at *
              generalize ansE d n x S = vE at *
              clear hinj hack hend hno
              rcases hcs with ⟨rfl, v1⟩ | ⟨rfl, rfl⟩ | ⟨rfl, v1⟩ | ⟨v1, v2, v3⟩
              case inr.inl =>
                go_wp2_with fail
                refine hA.mono ?_
                rintro e w5 ⟨rfl, f5, s5⟩
                have fa := (Fr.refl none' w5).alloc (.cells #[.int .i64 1023, .bool vF, .int .i64 vE] 32)
                have r5 := row_alloc w5 #[.int .i64 1023, .bool vF, .int .i64 vE] 32
                have K5 := (hK.chg f5 s5).keep0 fa
                have F5 := (fk.lone f5 HB0.out).trans fa
                have m0 := r5.cell 0
                have m2 := r5.cell 2
                clear c0 c1 c2 c3
                obtain ⟨c0, c1, c2, c3⟩ := HAct.out.keep F5 (fun h => h)
                clear hA fk hK f5 s5 fa r5
                go_wp2_with fail
                go_roundw
                case rel => exact ⟨k + 1, S', I, A, E, by omega, by omega, by go_num, F5, K5, by have := HB1.out; simpa using this⟩
                case measure => simp [intOf]; omega
              all_goals
                go_wp2_with fail
                refine hA.mono ?_
                rintro e w5 ⟨rfl, f5, s5⟩
                have fa := (Fr.refl none' w5).alloc (.cells #[.int .i64 vN, .bool vF, .int .i64 vE] 32)
                have r5 := row_alloc w5 #[.int .i64 vN, .bool vF, .int .i64 vE] 32
                have K5 := (hK.chg f5 s5).keep0 fa
                have F5 := (fk.lone f5 HB0.out).trans fa
                have m0 := r5.cell 0
                have m2 := r5.cell 2
                clear c0 c1 c2 c3
                obtain ⟨c0, c1, c2, c3⟩ := HAct.out.keep F5 (fun h => h)
                clear hA fk hK f5 s5 fa r5
                go_wp2_with fail
                go_roundw
                case rel => exact ⟨k + 1, S', I, A, E, by omega, by omega, by go_num, F5, K5, by have := HB1.out; simpa using this⟩
                case measure => simp [intOf]; omega
      · have hcs : (¬ k < len) ∨ (k < len ∧ k = 150) := by omega
        clear hin
        have p1 := (Fr.refl none' wr).alloc (.cells Z 51)
        have p2 := (Fr.refl none' (wr.alloc (.cells Z 51))).alloc (.cells Z 51)
        have z1 := HZ.out wr
        have z2 := HZ.out (wr.alloc (.cells Z 51))
        rw [show (wr.alloc (.cells Z 51)).heap.size = wr.heap.size + 1 by simp] at z2
        have K2 := (hK.keep0 p1).keep0 p2
        have F2 := (fk.trans p1).trans p2
        have z1' := z1.keep p2 (fun h => h)
        have hnw : gi < wr.heap.size ∧ ga < wr.heap.size ∧ ge < wr.heap.size ∧ w.heap.size ≤ wr.heap.size := ⟨hK.i.lt, hK.a.lt, hK.e.lt, fk.size⟩
        have hBl : ∀ q, B.s q → q < wr.heap.size := fun q hq => hK.vg.lt q hq
        clear p1 p2 z1 fk hK
        rcases hcs with u1 | ⟨u1, rfl⟩
        all_goals
          go_wp2_with fail
          generalize hgp : wr.heap.size = gp at *
          generalize hgc : gp + 1 = gc at *
          refine (all_any _ B S K2.vg).mono ?_
          rintro e w3 ⟨v3, rfl, l3, f3⟩
          have K3 := K2.keep0 f3
          have F3 := F2.trans f3
          have P3 := z1'.keep f3 (fun h => h)
          have C3 := z2.keep f3 (fun h => h)
          have HBD : Hid (gi ≠ gp ∧ ga ≠ gp ∧ ge ≠ gp ∧ gi ≠ gc ∧ ga ≠ gc ∧ ge ≠ gc ∧ gp ≠ gc ∧ w.heap.size ≤ gp ∧ w.heap.size ≤ gc) := ⟨by omega, by omega, by omega, by omega, by omega, by omega, by omega, by omega, by omega⟩
          have HBL : Hid (∀ q, B.s q → q < gp) := fun q hq => by have := K2.vg.lt q hq; have := hBl q hq; omega
          obtain ⟨a4, c4, rfl, _, _, h4, hs4⟩ := l3.open
          have HSZ : Hid (LrS w3 (gc + 1) (.slice a4 (allL S).length c4) (allL S)) := by
            have e1 : ((wr.alloc (.cells Z 51)).alloc (.cells Z 51)).heap.size = gc + 1 := by rw [← hgc, ← hgp]; simp
            rw [e1] at hs4
            exact hs4
          have hg := K3.vg.good
          have HSA : Hid (∀ j : Nat, j < 64 → ((allL S).any fun x => x.id == (j : Int) && x.pe) = (S.pe j).isSome ∧ ((allL S).any fun x => x.id == (j : Int) && x.ac) = (S.ac j).isSome) := fun j hj => seen_all hg j hj
          have HID : Hid (∀ x, x ∈ allL S → ∃ k : Nat, k < 64 ∧ x.id = (k : Int)) := fun x hx => id_nat hg hx
          have hL64 := len_all hg
          generalize allL S = L at *
          clear hs4 l3 h4 hg f3 K2 F2 z1' z2 hnw hBl
          go_wp2_with fail
          go_loopw [17] (fun i wq => ∃ m : Nat, m ≤ L.length ∧ i = .int .i64 m ∧ Fr none' w wq ∧ LrS wq (gc + 1) (.slice a4 L.length c4) L ∧ Books wq w.heap.size B gi ga ge S I A E ∧ Arr wq gp (seenP L m) ∧ Arr wq gc (seenA L m)) (fun i _ => L.length - (intOf i).toNat)
          case atStart => exact ⟨0, by omega, rfl, F3, HSZ.out, K3, P3.congr (fun j _ => by simp [seenP, bit]), C3.congr (fun j _ => by simp [seenA, bit])⟩
          case round =>
            clear F3 K3 P3 C3
            obtain ⟨m, hm, rfl, fm, hS, hK, hP, hC⟩ := hrel
            by_cases hlt : m < L.length
            · obtain ⟨x, hx⟩ : ∃ x, L[m]? = some x := ⟨_, List.getElem?_eq_getElem hlt⟩
              obtain ⟨jj, hjj, hid⟩ := HID.out x (List.mem_of_getElem? hx)
              obtain ⟨g, eg, k0, k1, k2, k3, k4⟩ := (LrS.toA hS) m x hx
              subst eg
              have HX : Hid (L[m]? = some x) := hx
              have HJ : Hid (x.id = (jj : Int)) := hid
              have HLT : Hid (m < L.length) := hlt
              have u5 : decide (m < L.length) = true := decide_eq_true hlt
              have i5 : 0 ≤ (m : Int) ∧ (m : Int) < (L.length : Int) := by omega
              have i6 : 0 ≤ (jj : Int) ∧ (jj : Int) < 64 := by omega
              rw [hid] at k0
              clear hx hid hlt hm
              cases hpe : x.pe <;> cases hac : x.ac
              · rw [hpe] at k3
                rw [hac] at k4
                have HSP : Hid ((∀ j, seenP L m j = seenP L (m + 1) j) ∧ (∀ j, seenA L m j = seenA L (m + 1) j)) := ⟨fun j => by rw [seenP_step HX.out HJ.out, hpe]; rfl, fun j => by rw [seenA_step HX.out HJ.out, hac]; rfl⟩
                have HFIN : Hid (Fr none' w _ ∧ LrS _ (gc + 1) _ L ∧ Books _ w.heap.size B gi ga ge S I A E ∧ Arr _ gp _ ∧ Arr _ gc _) := ⟨fm, hS, hK, hP, hC⟩
                clear hS hK hP hC fm
                go_wp2_with fail
                go_roundw
                case rel => exact ⟨m + 1, by have := HLT.out; omega, by go_num, HFIN.out.1, HFIN.out.2.1, HFIN.out.2.2.1, HFIN.out.2.2.2.1.congr (fun j _ => HSP.out.1 j), HFIN.out.2.2.2.2.congr (fun j _ => HSP.out.2 j)⟩
                case measure => have := HLT.out; simp [intOf]; omega
              · rw [hpe] at k3
                rw [hac] at k4
                have HSP : Hid ((∀ j, seenP L m j = seenP L (m + 1) j) ∧ (∀ j, updI (seenA L m) jj 1 j = seenA L (m + 1) j)) := ⟨fun j => by rw [seenP_step HX.out HJ.out, hpe]; rfl, fun j => by rw [seenA_step HX.out HJ.out, hac]; rfl⟩
                have z0 := hC.cell hjj
                have z1 := hC.frozen jj
                have C2 := hC.set hjj 1
                have P2 := hP.keep (fr_cell wr gc jj (.int .i64 1)) HBD.out.2.2.2.2.2.2.1
                have K2 := hK.other (fr_cell wr gc jj (.int .i64 1)) HBD.out.2.2.2.1 HBD.out.2.2.2.2.1 HBD.out.2.2.2.2.2.1 (fun e => absurd (HBL.out _ e) (by have := HBD.out; omega))
                have S2 := hS.keep (fr_cell wr gc jj (.int .i64 1)) (fun k hk e => by have e' : k = gc := e; have := HBD.out; omega)
                have F2 := fm.newer (fr_cell wr gc jj (.int .i64 1)) HBD.out.2.2.2.2.2.2.2.2
                have HFIN : Hid (Fr none' w _ ∧ LrS _ (gc + 1) _ L ∧ Books _ w.heap.size B gi ga ge S I A E ∧ Arr _ gp _ ∧ Arr _ gc _) := ⟨F2, S2, K2, P2, C2⟩
                clear hS hK hP hC fm S2 K2 P2 C2 F2
                go_wp2_with fail
                go_roundw
                case rel => exact ⟨m + 1, by have := HLT.out; omega, by go_num, HFIN.out.1, HFIN.out.2.1, HFIN.out.2.2.1, HFIN.out.2.2.2.1.congr (fun j _ => HSP.out.1 j), HFIN.out.2.2.2.2.congr (fun j _ => HSP.out.2 j)⟩
                case measure => have := HLT.out; simp [intOf]; omega
              · rw [hpe] at k3
                rw [hac] at k4
                have HSP : Hid ((∀ j, updI (seenP L m) jj 1 j = seenP L (m + 1) j) ∧ (∀ j, seenA L m j = seenA L (m + 1) j)) := ⟨fun j => by rw [seenP_step HX.out HJ.out, hpe]; rfl, fun j => by rw [seenA_step HX.out HJ.out, hac]; rfl⟩
                have y0 := hP.cell hjj
                have y1 := hP.frozen jj
                have P1 := hP.set hjj 1
                have C1 := hC.keep (fr_cell wr gp jj (.int .i64 1)) (fun e => HBD.out.2.2.2.2.2.2.1 e.symm)
                have K1 := hK.other (fr_cell wr gp jj (.int .i64 1)) HBD.out.1 HBD.out.2.1 HBD.out.2.2.1 (fun e => absurd (HBL.out _ e) (by have := HBD.out; omega))
                have S1 := hS.keep (fr_cell wr gp jj (.int .i64 1)) (fun k hk e => by have e' : k = gp := e; have := HBD.out; omega)
                have F1 := fm.newer (fr_cell wr gp jj (.int .i64 1)) HBD.out.2.2.2.2.2.2.2.1
                have k0 := (LrS.toA S1 m x HX.out)
                obtain ⟨_, eg, q0, q1, q2, q3, q4⟩ := k0
                cases eg
                rw [HJ.out] at q0
                rw [hac] at q4
                rw [hpe] at q3
                have HFIN : Hid (Fr none' w _ ∧ LrS _ (gc + 1) _ L ∧ Books _ w.heap.size B gi ga ge S I A E ∧ Arr _ gp _ ∧ Arr _ gc _) := ⟨F1, S1, K1, P1, C1⟩
                clear hS hK hP hC fm S1 K1 P1 C1 F1
                go_wp2_with fail
                go_roundw
                case rel => exact ⟨m + 1, by have := HLT.out; omega, by go_num, HFIN.out.1, HFIN.out.2.1, HFIN.out.2.2.1, HFIN.out.2.2.2.1.congr (fun j _ => HSP.out.1 j), HFIN.out.2.2.2.2.congr (fun j _ => HSP.out.2 j)⟩
                case measure => have := HLT.out; simp [intOf]; omega
              · rw [hpe] at k3
                rw [hac] at k4
                have HSP : Hid ((∀ j, updI (seenP L m) jj 1 j = seenP L (m + 1) j) ∧ (∀ j, updI (seenA L m) jj 1 j = seenA L (m + 1) j)) := ⟨fun j => by rw [seenP_step HX.out HJ.out, hpe]; rfl, fun j => by rw [seenA_step HX.out HJ.out, hac]; rfl⟩
                have y0 := hP.cell hjj
                have y1 := hP.frozen jj
                have P1 := hP.set hjj 1
                have C1 := hC.keep (fr_cell wr gp jj (.int .i64 1)) (fun e => HBD.out.2.2.2.2.2.2.1 e.symm)
                have K1 := hK.other (fr_cell wr gp jj (.int .i64 1)) HBD.out.1 HBD.out.2.1 HBD.out.2.2.1 (fun e => absurd (HBL.out _ e) (by have := HBD.out; omega))
                have S1 := hS.keep (fr_cell wr gp jj (.int .i64 1)) (fun k hk e => by have e' : k = gp := e; have := HBD.out; omega)
                have F1 := fm.newer (fr_cell wr gp jj (.int .i64 1)) HBD.out.2.2.2.2.2.2.2.1
                have z0 := C1.cell hjj
                have z1 := C1.frozen jj
                have C2 := C1.set hjj 1
                have P2 := P1.keep (fr_cell (wr.setCell ⟨gp, jj, none⟩ (.int .i64 1)) gc jj (.int .i64 1)) HBD.out.2.2.2.2.2.2.1
                have K2 := K1.other (fr_cell (wr.setCell ⟨gp, jj, none⟩ (.int .i64 1)) gc jj (.int .i64 1)) HBD.out.2.2.2.1 HBD.out.2.2.2.2.1 HBD.out.2.2.2.2.2.1 (fun e => absurd (HBL.out _ e) (by have := HBD.out; omega))
                have S2 := S1.keep (fr_cell (wr.setCell ⟨gp, jj, none⟩ (.int .i64 1)) gc jj (.int .i64 1)) (fun k hk e => by have e' : k = gc := e; have := HBD.out; omega)
                have F2 := F1.newer (fr_cell (wr.setCell ⟨gp, jj, none⟩ (.int .i64 1)) gc jj (.int .i64 1)) HBD.out.2.2.2.2.2.2.2.2
                have k0 := (LrS.toA S1 m x HX.out)
                obtain ⟨_, eg, q0, q1, q2, q3, q4⟩ := k0
                cases eg
                rw [HJ.out] at q0
                rw [hac] at q4
                rw [hpe] at q3
                have HFIN : Hid (Fr none' w _ ∧ LrS _ (gc + 1) _ L ∧ Books _ w.heap.size B gi ga ge S I A E ∧ Arr _ gp _ ∧ Arr _ gc _) := ⟨F2, S2, K2, P2, C2⟩
                clear hS hK hP hC fm S1 K1 P1 C1 F1 S2 K2 P2 C2 F2
                go_wp2_with fail
                go_roundw
                case rel => exact ⟨m + 1, by have := HLT.out; omega, by go_num, HFIN.out.1, HFIN.out.2.1, HFIN.out.2.2.1, HFIN.out.2.2.2.1.congr (fun j _ => HSP.out.1 j), HFIN.out.2.2.2.2.congr (fun j _ => HSP.out.2 j)⟩
                case measure => have := HLT.out; simp [intOf]; omega
            · obtain rfl : m = L.length := by omega
              have u5 : decide (L.length < L.length) = false := by simp
              have P9 : Arr wr gp (fun j => bit (S.pe j).isSome) := hP.congr (fun j hj => by unfold seenP; rw [List.take_of_length_le (Nat.le_refl _), (HSA.out j hj).1])
              have C9 : Arr wr gc (fun j => bit (S.ac j).isSome) := hC.congr (fun j hj => by unfold seenA; rw [List.take_of_length_le (Nat.le_refl _), (HSA.out j hj).2])
              clear hS hP hC hm
              go_wp2_with fail
              obtain ⟨w9, rfl⟩ : ∃ w9, w9 = wr := ⟨wr, rfl⟩
              go_loopw [18] (fun i wr => ∃ m : Nat, m ≤ 64 ∧ i = .int .i64 m ∧ Fr none' w9 wr) (fun i _ => 64 - (intOf i).toNat)
              case atStart => exact ⟨0, by omega, rfl, Fr.refl _ _⟩
              case round =>
                obtain ⟨m, hm, rfl, f9⟩ := hrel
                by_cases hlt : m < 64
                · have a1 := (hK.i.keep f9 (fun h => h)).cell hlt
                  have a2 := (hK.a.keep f9 (fun h => h)).cell hlt
                  have a3 := (hK.e.keep f9 (fun h => h)).cell hlt
                  have a4 := (P9.keep f9 (fun h => h)).cell hlt
                  have a5 := (C9.keep f9 (fun h => h)).cell hlt
                  obtain ⟨b1, b2, b3, b4⟩ := HBal.out m hlt
                  have b5 := bit_bnd (S.pe m).isSome
                  have b6 := bit_bnd (S.ac m).isSome
                  generalize bit (S.pe m).isSome = pm at *
                  generalize bit (S.ac m).isSome = cm at *
                  generalize I m = im at *
                  generalize A m = am at *
                  generalize E m = em at *
                  have h1 : wrap64 (am + pm) = im := by unfold wrap64; omega
                  have h2 : wrap64 (em + cm) = am := by unfold wrap64; omega
                  have v1 : (im != im) = false := by simp
                  have v2 : (am != am) = false := by simp
                  have i7 : 0 ≤ (m : Int) ∧ (m : Int) < 64 := by omega
                  clear b1 b2 b3 b4 b5 b6
                  go_wp2_with fail
                  go_quiet (fail)
                  go_wp2_with fail
                  go_roundw
                  case rel => exact ⟨m + 1, by omega, by go_num, f9.trans (fr_drewN _ _)⟩
                  case measure => simp [intOf]; omega
                · obtain rfl : m = 64 := by omega
                  go_wp2_with fail
                  go_ret
                  exact ⟨rfl, fm.trans f9⟩

theorem once_any (lrs : Int) (a0 : Option Addr) (len cap : Nat) (w : World) (hl : len ≤ 9223372036854775807) (ha : Acts w a0 len) :
    Calls Try.prog 5 #[.int .i64 lrs, .slice a0 len cap] w fun e w' => e = .returned (.bool true) ∧ Below w.heap.size w w' :=
  (once_row lrs a0 len cap w hl ha).mono fun _ _ ⟨he, hf⟩ => ⟨he, hf.below (Nat.le_refl _) (fun _ h => h.elim)⟩

end Go.Proofs.Ytlbflaebjicmaaa
