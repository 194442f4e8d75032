/-
  The law SchedPlays walked. No statement is proved here.
-/
import Derived.Test.YtipfgenbfnkpfaaSdAwake
import Derived.Test.YtipfgenbfnkpfaaSdBoth
import Derived.Test.YtipfgenbfnkpfaaSdSame
import Derived.Deep.CutBlock
import Derived.Deep.CutRange
namespace Go.Proofs.Ytipfgenbfnkpfaa
open Go.RowKit

/-- A slice of turns of the call's own, whatever it says by now. -/
def TnW (w : World) (g m : Nat) : Prop := ∃ cur, Row w g cur 33 ∧ m * 2 ≤ cur.size
theorem TnW.keep {w w' : World} {g m : Nat} (h : TnW w g m) (f : Fr none' w w') : TnW w' g m := by
  obtain ⟨cur, r, s⟩ := h
  exact ⟨cur, r.keep f (fun h => h), s⟩
theorem TnW.put {w : World} {g m : Nat} (h : TnW w g m) (k : Nat) (v : Value) : TnW (w.setCell ⟨g, k, none⟩ v) g m := by
  obtain ⟨cur, r, s⟩ := h
  exact ⟨_, r.setCell k v, by simpa using s⟩
theorem TnW.at {w : World} {g m : Nat} (h : TnW w g m) {k : Nat} (hk : k < m) : (∃ v, w.cell? ⟨g, k * 2 + 1, none⟩ = some v) ∧ w.frozen? ⟨g, k * 2 + 1, none⟩ = false := by
  obtain ⟨cur, r, s⟩ := h
  refine ⟨⟨cur[k * 2 + 1]'(by omega), ?_⟩, r.frozen _⟩
  rw [r.cell, Array.getElem?_eq_getElem]

theorem app_table {w : World} {v : Value} {L : List Tn} (hv : TnI w v L) (hl : L.length * 16 ≤ 140737488351232) :
    ∃ (g vc : Nat) (w2 : World), (Builtin.append_ #[22, 22] 22 #[.slice (some ⟨w.heap.size, 0, none⟩) 0 0, v]).run Try.prog (w.alloc (.cells #[] 33)) = .ok (.slice (some ⟨g, 0, none⟩) L.length vc) w2 ∧ Fr none' w w2 ∧ TnI w2 (.slice (some ⟨g, 0, none⟩) L.length vc) L ∧ w.heap.size ≤ g ∧ g < w2.heap.size ∧ TnW w2 g L.length := by
  have f1 := (Fr.refl none' w).alloc (.cells #[] 33)
  have o1 : (w.alloc (.cells #[] 33)).ownsRow 0 33 2 (.slice (some ⟨w.heap.size, 0, none⟩) 0 0) ([] : List Tn).length (flatN []) := ⟨rfl, Or.inr ⟨w.heap.size, 0, #[], rfl, by omega, row_alloc w _ _, by simp, by simp [maxLen], by simp, rfl⟩⟩
  have hi := info_n
  cases hq : Try.prog.info? 33 with
  | none => simp [hq] at hi
  | some i =>
    rw [hq] at hi
    simp only [Option.map_some, Option.some.injEq, Prod.mk.injEq] at hi
    obtain ⟨hz0, hs, hby⟩ := hi
    rcases hv with ⟨rfl, rfl⟩ | ⟨a, cap, rfl, hx⟩
    · refine ⟨w.heap.size, 0, _, run_append_owned_none (P := Try.prog) (w := _) 0 22 22 33 i 2 Try.underlying22 hq _ _ _ o1, f1, Or.inr ⟨_, 0, rfl, fun k x hk => by simp at hk⟩, Nat.le_refl _, by simp, ⟨#[], row_alloc w _ _, by simp⟩⟩
    · obtain ⟨v', w', g1, g2, g3, g4, g5⟩ := run_append_own_at (P := Try.prog) (w := w.alloc (.cells #[] 33)) 0 22 22 33 i _ 2 16 Try.underlying22 hq hz0 hs hby rfl (by omega) _ 0 (flatN []) o1 a L.length cap (flatN L) (flatN_len L) (fun j u hu => by
        obtain ⟨x, hx1, hu'⟩ := flatN_ix L j u hu
        obtain ⟨b, o, rfl, c0, c1⟩ := hx _ x hx1
        replace c0 := cell_keep f1 c0 (fun h => h)
        replace c1 := cell_keep f1 c1 (fun h => h)
        rw [add_off]
        rcases (by omega : j % 2 = 0 ∨ j % 2 = 1) with e | e
        · rw [e] at hu'
          rw [show o + j = o + j / 2 * 2 by omega, c0]
          exact hu'
        · rw [e] at hu'
          rw [show o + j = o + j / 2 * 2 + 1 by omega, c1]
          exact hu') (encN_one L) (by simp only [maxLen]; omega) (by omega) (by omega)
      have fr : Fr none' w w' := f1.newer (b := w.heap.size) ((fr_of_grown' g3).mono (fun k _ e => own_is e)) (Nat.le_refl _)
      have fl : flatN [] ++ flatN L = flatN L := rfl
      rw [fl, Nat.zero_add] at g2
      obtain ⟨hl2, hh | ⟨g, cp, cur, hvv, hb, hg, hcc, hm, hss, ht⟩⟩ := g2
      · exact absurd (g4.1 hh.1).1 (by simp)
      · subst hvv
        have hrow : Row w' g cur 33 := hg
        have hgw : w.heap.size ≤ g := by
          rcases g5 with h3 | h3
          · have := Option.some.inj (show some g = some w.heap.size from h3); omega
          · have := Option.some.inj (show some g = some (w.alloc (.cells #[] 33)).heap.size from h3)
            simp at this
            omega
        refine ⟨g, cp, w', g1, fr, Or.inr ⟨_, cp, rfl, fun k x hk => ⟨g, 0, rfl, ?_⟩⟩, hgw, hrow.lt, cur, hrow, by rw [hss]; exact Nat.mul_le_mul_right 2 hcc⟩
        have hlt := lt_of_get hk
        have key : ∀ r, r < 2 → w'.cell? ⟨g, 0 + k * 2 + r, none⟩ = (encN x)[r]? := fun r hr => by
          rw [hrow.cell, Nat.zero_add, ← flatN_at L k x hk r hr, ← ht, List.getElem?_take, if_pos (by omega)]
          simp
        exact ⟨key 0 (by omega), key 1 (by omega)⟩

theorem bo_madeP {w1 w2 w3 w4 : World} {L : List Tn} (hb : newB L = true) {p : Pb} {q : Db} {g : Nat} (f0 : Fr none' w1 w2) (hg : g < w2.heap.size) (i1 : IsS w3 p (newSd L)) (f2 : Fr none' w2 w3) (s2 : ∀ k, p.s (newSd L) k → w2.heap.size ≤ k) (i3 : IsD w4 q (newSd L) []) (f3 : Fr none' w3 w4) (s3 : ∀ k, q.s k → w3.heap.size ≤ k) : Bo w1 w4 p.b q.b (newSd L) [] (fun k => k = g) := by
  have := f2.size
  have := f0.size
  have := f3.size
  exact ⟨p, q, rfl, rfl, i1.keep0 f3, i3, fun k hk => ⟨by have := s2 k hk; omega, fun h => by have := s2 k hk; have h' : k = g := h; omega, fun hq => by have := i1.lt k hk; have := s3 k hq; omega⟩, fun k hk => ⟨by have := s3 k hk; omega, fun h => by have := s3 k hk; have h' : k = g := h; omega⟩, fun k h => by have h' : k = g := h; omega, (f0.trans f2).trans f3, ok_new hb, rl_new L⟩
theorem Bo.keep {w0 w w' : World} {b r : Nat} {S : Sd} {Q : List Int} {O T : Nat → Prop} (h : Bo w0 w b r S Q O) (f : Fr T w w') (hs : ∀ k, T k → w0.heap.size ≤ k ∧ O k) : Bo w0 w' b r S Q O := by
  obtain ⟨p, q, e1, e2, a1, a2, a3, a4, a5, a6, a7, a8⟩ := h
  exact ⟨p, q, e1, e2, a1.keep f (fun k hk hT => (a3 k hk).2.1 (hs k hT).2), a2.keep f (fun k hk hT => (a4 k hk).2 (hs k hT).2), a3, a4, fun k hk => Nat.lt_of_lt_of_le (a5 k hk) f.size, fr_new a6 f (fun k hk => (hs k hk).1), a7, a8⟩

set_option maxRecDepth 100000 in
set_option maxHeartbeats 8000000 in
theorem lplays_any (a0 : Option Addr) (n0 cap0 : Nat) (a1 : Option Addr) (n1 cap1 : Nat) (w : World) (_hl0 : n0 ≤ 9223372036854775807) (hsz : n0 * 16 ≤ 140737488351232) (hT : ∃ L, L.length = n0 ∧ TnI w (.slice a0 n0 cap0) L ∧ ∀ x ∈ L, OkN x) (hl1 : n1 ≤ 9223372036854775807) (hA : ∃ A, Acs w a1 n1 A) : Calls Try.prog 3 #[.slice a0 n0 cap0, .slice a1 n1 cap1] w fun e w' => e = .returned (.bool true) ∧ Below w.heap.size w w' := by
  obtain ⟨L, hLn, hv, _⟩ := hT
  obtain ⟨A, hA⟩ := hA
  have HA : Hid (Acs w a1 n1 A) := hA
  have HV : Hid (TnI w (.slice a0 n0 cap0) L) := hv
  clear hA hv
  have HBE : Hid (∀ w', Fr none' w w' → Below w.heap.size w w') := fun w' f => f.below (Nat.le_refl _) (fun _ h => h.elim)
  go_enter Try.func3, Try.ntmps3
  go_wp2_with fail
  refine (awake_any _).mono ?_
  rintro e w1 ⟨rfl, f1⟩
  have HF : Hid (Fr none' w w1) := f1
  clear f1
  obtain ⟨go, vc, w2, hrun, f2, V2, hg0, hg1, HTW⟩ := app_table (HV.out.keep HF.out) (by rw [hLn]; exact hsz)
  rw [hLn] at hrun V2 HTW
  have HW : Hid (TnW w2 go n0) := HTW
  have HGO : Hid (w1.heap.size ≤ go ∧ go < w2.heap.size) := ⟨hg0, hg1⟩
  have HF2 : Hid (Fr none' w1 w2) := f2
  have HV2 : Hid _ := V2
  clear f2 V2 hg0 hg1 HTW hsz hLn
  cases hb : newB L with
  | false =>
    go_wp2_with (at_builtin; refine wpList_append_runK rfl _ _ 22 rfl _ _ rfl rfl _ _ hrun ?_)
    refine (xnew_no w2 _ L HV2.out hb).mono ?_
    rintro e w3 ⟨rfl, f3⟩
    go_wp2_with fail
    refine (rnew_any w3 _ L (((HV.out.keep HF.out).keep HF2.out).keep f3)).mono ?_
    rintro e w4 (⟨_, rfl, f4⟩ | ⟨h, _⟩)
    · have HE : Hid (Below w.heap.size w w4) := HBE.out _ (((HF.out.trans HF2.out).trans f3).trans f4)
      clear f3 f4 hb
      go_wp2_with fail
      go_ret
      exact ⟨rfl, HE.out⟩
    · rw [h] at hb; cases hb
  | true =>
    go_wp2_with (at_builtin; refine wpList_append_runK rfl _ _ 22 rfl _ _ rfl rfl _ _ hrun ?_)
    refine (new_any w2 _ L HV2.out).mono ?_
    rintro e w3 (⟨h, _⟩ | ⟨_, p, rfl, i1, f3, s2⟩)
    · rw [h] at hb; cases hb
    go_wp2_with fail
    refine (rnew_any w3 _ L (((HV.out.keep HF.out).keep HF2.out).keep f3)).mono ?_
    rintro e w4 (⟨h, _⟩ | ⟨_, q, rfl, i3, f4, s3⟩)
    · rw [h] at hb; cases hb
    have HB0 : Hid (Bo w1 w4 p.b q.b (newSd L) [] (fun k => k = go)) := bo_madeP hb HF2.out HGO.out.2 i1 f3 s2 i3 f4 s3
    have HW4 : Hid (TnW w4 go n0) := (HW.out.keep f3).keep f4
    clear i1 f3 s2 i3 f4 s3 hb HV HV2 HW hrun
    generalize p.b = b at *
    generalize q.b = r at *
    go_wp2_with fail
    go_loopw [11] (fun i wr => ∃ k : Nat, k ≤ n0 ∧ i = .int .i64 (k : Int) ∧ Hid (Bo w1 wr b r (newSd L) [] (fun k => k = go)) ∧ Hid (TnW wr go n0)) (fun i _ => n0 - (intOf i).toNat)
    case atStart => exact ⟨0, by omega, rfl, HB0, HW4⟩
    case round =>
      clear HB0 HW4
      obtain ⟨k, hk, rfl, HI, HJ⟩ := hrel
      by_cases hkn : k < n0
      · have u0 : decide ((k : Int) < (n0 : Int)) = true := decide_eq_true (by omega)
        have ik : 0 ≤ (k : Int) ∧ (k : Int) < (n0 : Int) := by omega
        obtain ⟨⟨ov, co⟩, zo⟩ := HJ.out.at hkn
        have HI2 : Hid (Bo w1 (wr.setCell ⟨go, k * 2 + 1, none⟩ (.int .i64 77)) b r (newSd L) [] (fun k => k = go)) := HI.out.keep (fr_set wr go _ _ (Fr.refl (at' go) _)) (fun k hk => by have e : k = go := hk; rw [e]; exact ⟨HGO.out.1, rfl⟩)
        have HJ2 : Hid (TnW (wr.setCell ⟨go, k * 2 + 1, none⟩ (.int .i64 77)) go n0) := HJ.out.put _ _
        clear HI HJ
        go_wp2_with fail
        go_roundw
        case rel => exact ⟨k + 1, by omega, by go_num, HI2, HJ2⟩
        case measure => simp [intOf]; omega
      · have u0 : decide ((k : Int) < (n0 : Int)) = false := decide_eq_false (by omega)
        have ik : ¬ (k : Int) < (n0 : Int) := by omega
        have HB : Hid (∃ S Q, Bo w1 wr b r S Q (fun _ => False)) := ⟨_, _, HI.out.more (Fr.refl _ _) (fun k hk => hk.elim)⟩
        clear HI HJ
        obtain ⟨wz, rfl⟩ : ∃ wz, wz = wr := ⟨wr, rfl⟩
        go_upto_block 2 with fail
        go_cut [12] from 56 to 85 (fun i wc => Hid (∃ S Q, Bo w1 wc b r S Q (fun _ => False)))
        case first =>
          go_wp2_with fail
          go_loopw [12] (fun i wr => ∃ k : Nat, k ≤ n1 ∧ k ≤ 120 ∧ i = .int .i64 (k : Int) ∧ Hid (∃ S Q, Bo w1 wr b r S Q (fun _ => False))) (fun i _ => 120 - (intOf i).toNat)
          case atStart => exact ⟨0, by omega, by omega, rfl, HB⟩
          case round =>
            obtain ⟨k, hk1, hk2, rfl, HI⟩ := hrel
            clear HB
            by_cases hlt : k < n1
            · by_cases hlt2 : k < 120
              · obtain ⟨S, Q, B⟩ := HI.out
                obtain ⟨g, o, rfl, ak, okx⟩ := (HA.out.keep (HF.out.trans B.old)) k hlt
                have i1 : 0 ≤ (k : Int) ∧ (k : Int) < (n1 : Int) := by omega
                have uk1 : decide ((k : Int) < (n1 : Int)) = true := decide_eq_true (by omega)
                have uk2 : decide ((k : Int) < 120) = true := decide_eq_true (by omega)
                have c0 : wr.cell? ⟨g, o + k * 4, none⟩ = some (.int .i64 (A k).op) := ak 0 (by omega)
                have c1 : wr.cell? ⟨g, o + k * 4 + 1, none⟩ = some (.int .i64 (A k).i) := ak 1 (by omega)
                have c2 : wr.cell? ⟨g, o + k * 4 + 2, none⟩ = some (.int .i64 (A k).n) := ak 2 (by omega)
                have c3 : wr.cell? ⟨g, o + k * 4 + 3, none⟩ = some (.int .i64 (A k).m) := ak 3 (by omega)
                have D := does_any B (A k) okx
                unfold acV acC at D
                clear ak B HI
                go_wp2_with fail
                refine D.mono ?_
                clear D
                rintro e wa ⟨rfl, HQ⟩
                obtain ⟨S2, Q2, B2⟩ := HQ.out
                obtain ⟨g', o', eg, ak', okx'⟩ := (HA.out.keep (HF.out.trans B2.old)) k hlt
                simp only [Option.some.injEq, Addr.mk.injEq, and_true] at eg
                obtain ⟨rfl, rfl⟩ := eg
                have d0 : wa.cell? ⟨g, o + k * 4, none⟩ = some (.int .i64 (A k).op) := ak' 0 (by omega)
                have d1 : wa.cell? ⟨g, o + k * 4 + 1, none⟩ = some (.int .i64 (A k).i) := ak' 1 (by omega)
                have d2 : wa.cell? ⟨g, o + k * 4 + 2, none⟩ = some (.int .i64 (A k).n) := ak' 2 (by omega)
                have d3 : wa.cell? ⟨g, o + k * 4 + 3, none⟩ = some (.int .i64 (A k).m) := ak' 3 (by omega)
                have D := same_any B2 (A k) okx
                unfold acV acC at D
                have HK2 : Hid (∀ w', Fr none' wa w' → ∃ S Q, Bo w1 w' b r S Q (fun _ => False)) := fun w' f => ⟨S2, Q2, B2.keep0 f⟩
                clear ak' B2 HQ c0 c1 c2 c3 okx okx'
                go_wp2_with fail
                refine D.mono ?_
                clear D
                rintro e wb ⟨rfl, fb⟩
                have HQ : Hid (∃ S Q, Bo w1 wb b r S Q (fun _ => False)) := HK2.out _ fb
                clear HK2 fb d0 d1 d2 d3
                go_wp2_with fail
                go_roundw
                case rel => exact ⟨k + 1, by omega, by omega, by go_num, HQ⟩
                case measure => simp [intOf]; omega
              · have uk1 : decide ((k : Int) < (n1 : Int)) = true := decide_eq_true (by omega)
                have uk2 : decide ((k : Int) < 120) = false := decide_eq_false (by omega)
                go_wp2_with fail
                go_meet
                case rel => exact HI
            · have uk1 : decide ((k : Int) < (n1 : Int)) = false := decide_eq_false (by omega)
              go_wp2_with fail
              go_meet
              case rel => exact HI
        case rest =>
          clear HB HA
          obtain ⟨S, Q, B⟩ := hcut.out
          clear hcut
          have HE : Hid (Below w.heap.size w wc) := HBE.out _ (HF.out.trans B.old)
          clear B
          go_wp2_with fail
          go_ret
          exact ⟨rfl, HE.out⟩

end Go.Proofs.Ytipfgenbfnkpfaa
