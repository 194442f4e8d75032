/-
  The contracts of package isa's Reads and Writes over the translation. No statement is proved here.
-/
import Derived.Test.YtcbkjbibngopnaaIsaOwn
import Derived.Test.YtcbkjbibngopnaaIsaEnc
namespace Go.Proofs.Ytcbkjbibngopnaa
open Go.RowKit

/-- What Reads answers: a list of its own. -/
def Told (w : World) (L : List Int) (e : Ending) (w' : World) : Prop := ∃ v, e = .returned v ∧ Fr none' w w' ∧ OwnI w' w.heap.size v L

set_option maxHeartbeats 1600000 in
theorem reads_no (o a b c i : Int) (w : World) (h : rightI o a b c i = false) :
    Calls Try.prog 17 #[.agg #[.int .i64 o, .int .i64 a, .int .i64 b, .int .i64 c, .int .i64 i]] w (Told w []) := by
  have f0 := (Fr.refl none' w).alloc (.cells (ibox o a b c i) 23)
  unfold ibox at f0
  go_enter Try.func17, Try.ntmps17
  go_wp2_with fail
  refine (right_any _ _ _ _ _ _).mono ?_
  rintro e w1 ⟨rfl, f1⟩
  rw [h]
  replace f0 := f0.trans f1
  clear f1
  go_wp2
  go_ret
  exact ⟨_, rfl, f0, own_nil _ _⟩

theorem sort_comp_nil (w : World) : OwnI w w.heap.size (.slice none 0 0) [] := own_nil _ _

set_option maxHeartbeats 3200000 in
theorem reads_yes (o a b c i : Int) (w : World) (h : rightI o a b c i = true) :
    Calls Try.prog 17 #[.agg #[.int .i64 o, .int .i64 a, .int .i64 b, .int .i64 c, .int .i64 i]] w (Told w (sd (rawP (kf o) (onl o) a b c (fsz (kf o))))) := by
  have f0 := (Fr.refl none' w).alloc (.cells (ibox o a b c i) 23)
  have r0 := row_alloc w (ibox o a b c i) 23
  have hk : kf o < 9 := by have := kf_le o; omega
  have H3 : Hid (onl o = true → kf o = 3) := fun h => onl_form h
  have KO := only_any o
  have KK := kind_any o
  have KR := right_any o a b c i
  rw [h] at KR
  unfold ibox at f0
  generalize kf o = k at *
  generalize onl o = on at *
  clear h
  go_enter Try.func17, Try.ntmps17
  go_wp2_with fail
  refine (KR _).mono ?_
  rintro e w1 ⟨rfl, f1⟩
  replace r0 := r0.keep f1 (fun h => h)
  replace f0 := f0.trans f1
  clear f1 KR
  obtain ⟨c0, c1, c2, c3, c4⟩ := ibox_cells r0
  go_wp2_with fail
  refine (KK _).mono ?_
  rintro e w2 ⟨rfl, f1⟩
  replace r0 := r0.keep f1 (fun h => h)
  replace f0 := f0.trans f1
  have S1 : Hid (w.heap.size + 1 ≤ w2.heap.size) := by have := r0.lt; show w.heap.size + 1 ≤ w2.heap.size; omega
  clear f1 KK c0 c1 c2 c3 c4
  go_wp2_with fail
  go_loopw [3] (fun v wr => ∃ p : Nat, p ≤ fsz k ∧ Fr none' w wr ∧ It wr w2.heap.size (fs k) p ∧ Row wr w.heap.size (ibox o a b c i) 23 ∧ OwnI wr w.heap.size v (rawP k on a b c p)) (fun _ wr => 4 - itPos wr w2.heap.size)
  case atStart => exact ⟨0, Nat.zero_le _, f0.alloc _, it_new w2 _, r0.alloc _, own_nil _ _⟩
  case round =>
    clear f0 r0
    obtain ⟨p, hp, fk, ik, r2, ok⟩ := hrel
    have M1 : Hid (itPos wr w2.heap.size = p) := ik.pos
    by_cases hlt : p < fsz k
    · have hs : p < (fs k).size := hlt
      have h128 : fch k p < 128 := by have := sign_cases k hk p hlt; omega
      have hn := fun ty => next_some (P := Try.prog) ik hs (by rw [fch_eq]; exact h128) ty
      rw [fch_eq] at hn
      have I2 := ik.set (p + 1)
      have f2 := fr_itset fk (Or.inl (by have := S1.out; omega)) (fs k) (p + 1) (g := w2.heap.size)
      have R2 := r2.itset ik (p + 1)
      have O2 := ok.itset ik (p + 1)
      obtain ⟨wn, hwn⟩ : ∃ wn, wn = itSet wr w2.heap.size (fs k) (p + 1) := ⟨_, rfl⟩
      rw [← hwn] at hn I2 f2 R2 O2
      clear hwn
      obtain ⟨c0, c1, c2, c3, c4⟩ := ibox_cells R2
      have HL : Hid (p < fsz k ∧ fsz k ≤ 3) := ⟨hlt, fsz_le k hk⟩
      have hS := rawP_succ k on a b c p hlt
      have hle := rawP_le k on a b c p
      clear h128 hs fk ik r2 hp ok
      rcases sign_cases k hk p hlt with hc | hc | hc | hc | hc
      · cases on
        · have RS : Hid (rawP k false a b c (p + 1) = rawP k false a b c p) := by
            show rawP k false a b c (p + 1) = rawP k false a b c p
            rw [hS, hc]; simp [adds]
          rw [hc] at hn
          have II : Hid (It wn w2.heap.size (fs k) (p + 1)) := I2
          have RR : Hid (Row wn w.heap.size (ibox o a b c i) 23) := R2
          have OO : Hid (OwnI wn w.heap.size u3 (rawP k false a b c p)) := O2
          clear hS hc hle I2 R2 O2 hlt
          go_wp2_with (go_at_call 26; refine (KO _).mono ?_; rintro e w3 ⟨rfl, rfl⟩)
          go_roundw
          case rel => exact ⟨p + 1, by have := HL.out; omega, f2, II.out, RR.out, by rw [RS.out]; exact OO.out⟩
          case measure => rw [II.out.pos, M1.out]; have := HL.out; omega
        · have RS : Hid (rawP k true a b c (p + 1) = rawP k true a b c p ++ [a]) := by
            show rawP k true a b c (p + 1) = rawP k true a b c p ++ [a]
            rw [hS, hc]; simp [adds]
          rw [hc] at hn
          have g0 := (Fr.refl none' wn).alloc (.cells #[.int .i64 a] 3)
          obtain ⟨v', w4, HR, f4, o4⟩ := append_int (wn.alloc (.cells #[.int .i64 a] 3)) w.heap.size ⟨wn.heap.size, 0, none⟩ u3 (rawP k true a b c p) a (by have := f2.size; have := g0.size; omega) (O2.keep0 g0) (by have := HL.out; omega) (by rw [add_lit']; exact (row_alloc wn _ _).cell 0)
          have i4 := (I2.keep g0 (fun h => h)).keep f4 ((O2.keep0 g0).apart_it (I2.keep g0 (fun h => h)))
          have r4 := (R2.keep g0 (fun h => h)).keep f4 ((O2.keep0 g0).apart (R2.keep g0 (fun h => h)) (by decide))
          have F4 : Hid (Fr none' w w4) := (f2.trans g0).own f4 (O2.keep0 g0)
          have II : Hid (It w4 w2.heap.size (fs k) (p + 1)) := i4
          have RR : Hid (Row w4 w.heap.size (ibox o a b c i) 23) := r4
          have OO : Hid (OwnI w4 w.heap.size v' (rawP k true a b c p ++ [a])) := o4
          clear hS hc hle I2 R2 O2 hlt g0 f4 i4 r4 o4
          go_wp2_with (first | (go_at_call 26; refine (KO _).mono ?_; rintro e w3 ⟨rfl, rfl⟩) | (at_builtin; refine wpList_append_run rfl _ _ _ rfl _ _ rfl rfl _ _ HR ?_))
          go_roundw
          case rel => exact ⟨p + 1, by have := HL.out; omega, F4.out, II.out, RR.out, by rw [RS.out]; exact OO.out⟩
          case measure => rw [II.out.pos, M1.out]; have := HL.out; omega
      · have RS : Hid (rawP k on a b c (p + 1) = rawP k on a b c p ++ [b]) := by
          show rawP k on a b c (p + 1) = rawP k on a b c p ++ [b]
          rw [hS, hc]; simp [adds]
        rw [hc] at hn
        have g0 := (Fr.refl none' wn).alloc (.cells #[.int .i64 b] 3)
        obtain ⟨v', w4, HR, f4, o4⟩ := append_int (wn.alloc (.cells #[.int .i64 b] 3)) w.heap.size ⟨wn.heap.size, 0, none⟩ u3 (rawP k on a b c p) b (by have := f2.size; have := g0.size; omega) (O2.keep0 g0) (by have := HL.out; omega) (by rw [add_lit']; exact (row_alloc wn _ _).cell 0)
        have i4 := (I2.keep g0 (fun h => h)).keep f4 ((O2.keep0 g0).apart_it (I2.keep g0 (fun h => h)))
        have r4 := (R2.keep g0 (fun h => h)).keep f4 ((O2.keep0 g0).apart (R2.keep g0 (fun h => h)) (by decide))
        have F4 : Hid (Fr none' w w4) := (f2.trans g0).own f4 (O2.keep0 g0)
        have II : Hid (It w4 w2.heap.size (fs k) (p + 1)) := i4
        have RR : Hid (Row w4 w.heap.size (ibox o a b c i) 23) := r4
        have OO : Hid (OwnI w4 w.heap.size v' (rawP k on a b c p ++ [b])) := o4
        clear hS hc hle I2 R2 O2 hlt g0 f4 i4 r4 o4
        go_wp2_with (first | (go_at_call 26; refine (KO _).mono ?_; rintro e w3 ⟨rfl, rfl⟩) | (at_builtin; refine wpList_append_run rfl _ _ _ rfl _ _ rfl rfl _ _ HR ?_))
        go_roundw
        case rel => exact ⟨p + 1, by have := HL.out; omega, F4.out, II.out, RR.out, by rw [RS.out]; exact OO.out⟩
        case measure => rw [II.out.pos, M1.out]; have := HL.out; omega
      · have RS : Hid (rawP k on a b c (p + 1) = rawP k on a b c p ++ [c]) := by
          show rawP k on a b c (p + 1) = rawP k on a b c p ++ [c]
          rw [hS, hc]; simp [adds]
        rw [hc] at hn
        have g0 := (Fr.refl none' wn).alloc (.cells #[.int .i64 c] 3)
        obtain ⟨v', w4, HR, f4, o4⟩ := append_int (wn.alloc (.cells #[.int .i64 c] 3)) w.heap.size ⟨wn.heap.size, 0, none⟩ u3 (rawP k on a b c p) c (by have := f2.size; have := g0.size; omega) (O2.keep0 g0) (by have := HL.out; omega) (by rw [add_lit']; exact (row_alloc wn _ _).cell 0)
        have i4 := (I2.keep g0 (fun h => h)).keep f4 ((O2.keep0 g0).apart_it (I2.keep g0 (fun h => h)))
        have r4 := (R2.keep g0 (fun h => h)).keep f4 ((O2.keep0 g0).apart (R2.keep g0 (fun h => h)) (by decide))
        have F4 : Hid (Fr none' w w4) := (f2.trans g0).own f4 (O2.keep0 g0)
        have II : Hid (It w4 w2.heap.size (fs k) (p + 1)) := i4
        have RR : Hid (Row w4 w.heap.size (ibox o a b c i) 23) := r4
        have OO : Hid (OwnI w4 w.heap.size v' (rawP k on a b c p ++ [c])) := o4
        clear hS hc hle I2 R2 O2 hlt g0 f4 i4 r4 o4
        go_wp2_with (first | (go_at_call 26; refine (KO _).mono ?_; rintro e w3 ⟨rfl, rfl⟩) | (at_builtin; refine wpList_append_run rfl _ _ _ rfl _ _ rfl rfl _ _ HR ?_))
        go_roundw
        case rel => exact ⟨p + 1, by have := HL.out; omega, F4.out, II.out, RR.out, by rw [RS.out]; exact OO.out⟩
        case measure => rw [II.out.pos, M1.out]; have := HL.out; omega
      · have RS : Hid (rawP k on a b c (p + 1) = rawP k on a b c p) := by
          show rawP k on a b c (p + 1) = rawP k on a b c p
          rw [hS, hc]; simp [adds]
        rw [hc] at hn
        have II : Hid (It wn w2.heap.size (fs k) (p + 1)) := I2
        have RR : Hid (Row wn w.heap.size (ibox o a b c i) 23) := R2
        have OO : Hid (OwnI wn w.heap.size u3 (rawP k on a b c p)) := O2
        clear hS hc hle I2 R2 O2 hlt
        go_wp2_with (go_at_call 26; refine (KO _).mono ?_; rintro e w3 ⟨rfl, rfl⟩)
        go_roundw
        case rel => exact ⟨p + 1, by have := HL.out; omega, f2, II.out, RR.out, by rw [RS.out]; exact OO.out⟩
        case measure => rw [II.out.pos, M1.out]; have := HL.out; omega
      · have RS : Hid (rawP k on a b c (p + 1) = rawP k on a b c p) := by
          show rawP k on a b c (p + 1) = rawP k on a b c p
          rw [hS, hc]; simp [adds]
        rw [hc] at hn
        have II : Hid (It wn w2.heap.size (fs k) (p + 1)) := I2
        have RR : Hid (Row wn w.heap.size (ibox o a b c i) 23) := R2
        have OO : Hid (OwnI wn w.heap.size u3 (rawP k on a b c p)) := O2
        clear hS hc hle I2 R2 O2 hlt
        go_wp2_with (go_at_call 26; refine (KO _).mono ?_; rintro e w3 ⟨rfl, rfl⟩)
        go_roundw
        case rel => exact ⟨p + 1, by have := HL.out; omega, f2, II.out, RR.out, by rw [RS.out]; exact OO.out⟩
        case measure => rw [II.out.pos, M1.out]; have := HL.out; omega
    · obtain rfl : p = fsz k := by omega
      have hn := fun ty => next_none (P := Try.prog) ik (by rw [fsz_eq]; omega) ty
      clear ik hp hlt r2
      rcases raw_cases k hk on H3.out a b c with e | ⟨x, e⟩ | ⟨x, y, e⟩
      · rw [e] at ok
        have EE : Hid (sd (rawP k on a b c (fsz k)) = []) := by show sd (rawP k on a b c (fsz k)) = []; rw [e]; rfl
        clear e
        obtain rfl := ok.2 rfl
        clear ok
        go_wp2_with fail
        refine (sort_nil _).mono ?_
        rintro e w3 ⟨⟨v3, rfl⟩, f3⟩
        replace fk := fk.trans f3
        clear f3
        go_wp2_with fail
        refine (comp_nil _).mono ?_
        rintro e w4 ⟨rfl, f3⟩
        replace fk := fk.trans f3
        clear f3
        go_wp2_with fail
        go_ret
        exact ⟨_, rfl, fk, by rw [EE.out]; exact own_nil _ _⟩
      · rw [e] at ok
        have EE : Hid (sd (rawP k on a b c (fsz k)) = [x]) := by show sd (rawP k on a b c (fsz k)) = [x]; rw [e]; rfl
        clear e
        obtain ⟨g, cap, cur, rfl, _, _⟩ := ok.row (by simp)
        have OK : Hid (OwnI wr w.heap.size (.slice (some ⟨g, 0, none⟩) 1 cap) [x]) := ok
        clear ok
        go_wp2_with fail
        refine (sort_one _ _ _).mono ?_
        rintro e w3 ⟨⟨v3, rfl⟩, f3⟩
        have O3 : Hid (OwnI w3 w.heap.size (.slice (some ⟨g, 0, none⟩) 1 cap) [x]) := OK.out.keep0 f3
        replace fk := fk.trans f3
        clear f3 OK
        go_wp2_with fail
        refine (comp_one _ _ _).mono ?_
        rintro e w4 ⟨rfl, f3⟩
        have O4 : Hid (OwnI w4 w.heap.size (.slice (some ⟨g, 0, none⟩) 1 cap) [x]) := O3.out.keep0 f3
        replace fk := fk.trans f3
        clear f3 O3
        go_wp2_with fail
        go_ret
        exact ⟨_, rfl, fk, by rw [EE.out]; exact O4.out⟩
      · rw [e] at ok
        have E1 : Hid (rawP k on a b c (fsz k) = [x, y]) := e
        clear e
        obtain ⟨g, cap, cur, rfl, hB, hrow, hcap, hmax, hsz, hj⟩ := ok.row (by simp)
        have e0 : cur[0]? = some (.int .i64 x) := hj 0 x rfl
        have e1 : cur[1]? = some (.int .i64 y) := hj 1 y rfl
        have hcap' : 2 ≤ cap := hcap
        have OK : Hid (OwnI wr w.heap.size (.slice (some ⟨g, 0, none⟩) 2 cap) [x, y]) := ok
        have BB : Hid (w.heap.size ≤ g ∧ cap ≤ maxLen ∧ cur.size = cap ∧ 2 ≤ cap) := ⟨hB, hmax, hsz, hcap'⟩
        have E : Hid (cur[0]? = some (.int .i64 x) ∧ cur[1]? = some (.int .i64 y)) := ⟨e0, e1⟩
        have RW : Hid (Row wr g cur 3) := hrow
        clear ok hB hmax hsz hcap hj e0 e1 hcap' hrow
        by_cases hgt : y < x
        · have HG : Hid (y < x) := hgt
          have EE : Hid (sd (rawP k on a b c (fsz k)) = [y, x]) := by show sd (rawP k on a b c (fsz k)) = [y, x]; rw [E1.out]; simp [sd, show ¬ x = y by omega, show ¬ x < y by omega]
          clear hgt
          go_wp2_with fail
          refine (sort_yes g cap x y cur _ RW.out E.out.1 E.out.2 HG.out).mono ?_
          rintro e w3 ⟨⟨v3, rfl⟩, f3, r3⟩
          have F3 : Hid (Fr none' w w3) := fk.newer f3 BB.out.1
          have R3 : Hid (Row w3 g ((cur.setIfInBounds 1 (.int .i64 x)).setIfInBounds 0 (.int .i64 y)) 3) := r3
          clear fk f3 r3 RW OK
          have sz : 2 ≤ cur.size := by have := BB.out; omega
          have D : Hid (((cur.setIfInBounds 1 (.int .i64 x)).setIfInBounds 0 (.int .i64 y))[0]? = some (.int .i64 y) ∧ ((cur.setIfInBounds 1 (.int .i64 x)).setIfInBounds 0 (.int .i64 y))[1]? = some (.int .i64 x)) := swp_get sz _ _
          clear sz
          go_wp2_with fail
          refine (comp_two g cap y x _ ((R3.out.cell 0).trans D.out.1) ((R3.out.cell 1).trans D.out.2) (by have := HG.out; omega)).mono ?_
          rintro e w4 ⟨rfl, f3⟩
          have F4 : Hid (Fr none' w w4) := F3.out.trans f3
          have R4 : Hid (Row w4 g ((cur.setIfInBounds 1 (.int .i64 x)).setIfInBounds 0 (.int .i64 y)) 3) := R3.out.keep f3 (fun h => h)
          clear f3 F3 R3
          go_wp2_with fail
          go_ret
          refine ⟨_, rfl, F4.out, ?_⟩
          rw [EE.out]
          exact own_of_row (L := [y, x]) BB.out.1 R4.out BB.out.2.2.2 BB.out.2.1 (by simpa using BB.out.2.2.1) (by simp) (fun j z hj => by
            match j, hj with
            | 0, hj => simp at hj; subst hj; exact D.out.1
            | 1, hj => simp at hj; subst hj; exact D.out.2
            | j + 2, hj => simp at hj)
        · have HG : Hid (¬ y < x) := hgt
          clear hgt
          by_cases hxy : x = y
          · subst hxy
            have EE : Hid (sd (rawP k on a b c (fsz k)) = [x]) := by show sd (rawP k on a b c (fsz k)) = [x]; rw [E1.out]; simp [sd]
            go_wp2_with fail
            refine (sort_no g cap x x _ ((RW.out.cell 0).trans E.out.1) ((RW.out.cell 1).trans E.out.2) (by omega)).mono ?_
            rintro e w3 ⟨⟨v3, rfl⟩, f3⟩
            replace fk := fk.trans f3
            have R3 : Hid (Row w3 g cur 3) := RW.out.keep f3 (fun h => h)
            clear f3 RW OK
            go_wp2_with fail
            refine (comp_same g cap x cur _ R3.out E.out.1 E.out.2 BB.out.2.2.2).mono ?_
            rintro e w4 ⟨rfl, f3, r4⟩
            have F4 : Hid (Fr none' w w4) := fk.newer f3 BB.out.1
            have R4 : Hid (Row w4 g (cur.setIfInBounds 1 (.int .i64 0)) 3) := r4
            clear f3 fk R3 r4
            go_wp2_with fail
            go_ret
            refine ⟨_, rfl, F4.out, ?_⟩
            rw [EE.out]
            exact own_of_row (L := [x]) BB.out.1 R4.out (by have := BB.out; simp; omega) BB.out.2.1 (by simpa using BB.out.2.2.1) (by simp) (fun j z hj => by
              match j, hj with
              | 0, hj => simp at hj; subst hj; exact set_get _ _ E.out.1
              | j + 1, hj => simp at hj)
          · have HN : Hid (x ≠ y) := hxy
            have EE : Hid (sd (rawP k on a b c (fsz k)) = [x, y]) := by have := HG.out; show sd (rawP k on a b c (fsz k)) = [x, y]; rw [E1.out]; simp [sd, hxy, show x < y by omega]
            clear hxy
            go_wp2_with fail
            refine (sort_no g cap x y _ ((RW.out.cell 0).trans E.out.1) ((RW.out.cell 1).trans E.out.2) (by have := HG.out; omega)).mono ?_
            rintro e w3 ⟨⟨v3, rfl⟩, f3⟩
            replace fk := fk.trans f3
            have R3 : Hid (Row w3 g cur 3) := RW.out.keep f3 (fun h => h)
            have O3 : Hid (OwnI w3 w.heap.size (.slice (some ⟨g, 0, none⟩) 2 cap) [x, y]) := OK.out.keep0 f3
            clear f3 RW OK
            go_wp2_with fail
            refine (comp_two g cap x y _ ((R3.out.cell 0).trans E.out.1) ((R3.out.cell 1).trans E.out.2) HN.out).mono ?_
            rintro e w4 ⟨rfl, f3⟩
            replace fk := fk.trans f3
            have O4 : Hid (OwnI w4 w.heap.size (.slice (some ⟨g, 0, none⟩) 2 cap) [x, y]) := O3.out.keep0 f3
            clear f3 O3 R3
            go_wp2_with fail
            go_ret
            exact ⟨_, rfl, fk, by rw [EE.out]; exact O4.out⟩

theorem reads_any (o a b c i : Int) (w : World) :
    Calls Try.prog 17 #[.agg #[.int .i64 o, .int .i64 a, .int .i64 b, .int .i64 c, .int .i64 i]] w (Told w (readsI o a b c i)) := by
  unfold readsI
  cases h : rightI o a b c i
  · exact reads_no o a b c i w h
  · exact reads_yes o a b c i w h

set_option maxHeartbeats 1600000 in
theorem writes_any (o a b c i : Int) (w : World) :
    Calls Try.prog 19 #[.agg #[.int .i64 o, .int .i64 a, .int .i64 b, .int .i64 c, .int .i64 i]] w fun e w' => e = .returned (.int .i64 (writesI o a b c i)) ∧ Fr none' w w' := by
  have f0 := (Fr.refl none' w).alloc (.cells (ibox o a b c i) 23)
  have r0 := row_alloc w (ibox o a b c i) 23
  have hk : kf o < 9 := by have := kf_le o; omega
  have KC := cont_any (kf o) hk
  have KO := only_any o
  have KK := kind_any o
  have KR := right_any o a b c i
  unfold writesI
  unfold ibox at f0
  generalize kf o = k at *
  generalize onl o = on at *
  generalize hA k = ha at *
  generalize rightI o a b c i = ri at *
  clear hk
  go_enter Try.func19, Try.ntmps19
  go_wp2_with fail
  refine (KR _).mono ?_
  rintro e w1 ⟨rfl, f1⟩
  replace r0 := r0.keep f1 (fun h => h)
  replace f0 := f0.trans f1
  clear f1 KR
  obtain ⟨c0, c1, c2, c3, c4⟩ := ibox_cells r0
  cases ri
  · go_wp2
    go_ret
    exact ⟨rfl, f0⟩
  cases on
  · go_wp2_with (first
      | (go_at_call 26; refine (KO _).mono ?_; rintro e w3 ⟨rfl, rfl⟩)
      | (go_at_call 15; refine (KK _).mono ?_; rintro e w2 ⟨rfl, f1⟩; replace r0 := r0.keep f1 (fun h => h); replace f0 := f0.trans f1; clear f1 KK c0 c1 c2 c3 c4; obtain ⟨c0, c1, c2, c3, c4⟩ := ibox_cells r0)
      | (go_at_call 29; refine (KC _).mono ?_; rintro e w3 ⟨rfl, rfl⟩; clear KC))
    all_goals go_ret
    all_goals exact ⟨ret_i64 (by simp_all), f0⟩
  · go_wp2_with (first
      | (go_at_call 26; refine (KO _).mono ?_; rintro e w3 ⟨rfl, rfl⟩))
    go_ret
    exact ⟨rfl, f0⟩

end Go.Proofs.Ytcbkjbibngopnaa
