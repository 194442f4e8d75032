/-
  The document's Tick over the translation. No statement is proved here.
-/
import Derived.Test.YtipfgenbfnkpfaaSdRefG
namespace Go.Proofs.Ytipfgenbfnkpfaa
open Go.RowKit Go.Maps Go.WideMaps

def speQ (S : Sd) (Q : List Int) : List Int := if S.c = -1 then Q else if (curT S).s = 1 then Q ++ [S.c] else Q
def ticQ (S : Sd) (Q : List Int) : List Int := if S.lf = 1 then (if (speS S).c ≠ -1 ∧ pe (turS { speS S with lf := 0 }) ≠ pe { speS S with lf := 0 } then (speS S).c :: speQ S Q else speQ S Q) else speQ S Q

/-- What is left of Tick behind the slice: the turn goes on. -/
def P2a (b : Nat) (lf : Int) (R : World → Prop) (W : World) : Prop := W.cell? ⟨b, 2, none⟩ = some (.int .i64 lf) ∧ W.frozen? ⟨b, 2, none⟩ = false ∧ Hid (R (W.setCell ⟨b, 2, none⟩ (.int .i64 (lf - 1))))
/-- .. or the next one begins. -/
def P2b (b gt m cap tn nx : Nat) (lf' d0 d1 c : Int) (K : World → Prop) (W : World) : Prop := W.cell? ⟨b, 2, none⟩ = some (.int .i64 1) ∧ W.frozen? ⟨b, 2, none⟩ = false ∧ Hid (Calls Try.prog 38 #[.pointer (some ⟨b, 0, none⟩)] (W.setCell ⟨b, 2, none⟩ (.int .i64 0)) fun e w3 => e = .returned (.int .i64 d0) ∧ w3.cell? ⟨b, 0, none⟩ = some (.slice (some ⟨gt, 0, none⟩) m cap) ∧ w3.cell? ⟨b, 1, none⟩ = some (.int .i64 (tn : Int)) ∧ w3.cell? ⟨b, 2, none⟩ = some (.int .i64 0) ∧ w3.frozen? ⟨b, 1, none⟩ = false ∧ w3.frozen? ⟨b, 2, none⟩ = false ∧ w3.cell? ⟨gt, nx * 2 + 1, none⟩ = some (.int .i64 lf') ∧ Hid (∀ wa wb w2, Fr none' w3 wa → Fr none' (wa.setCell ⟨b, 1, none⟩ (.int .i64 (nx : Int))) wb → Fr none' (wb.setCell ⟨b, 2, none⟩ (.int .i64 lf')) w2 → Calls Try.prog 38 #[.pointer (some ⟨b, 0, none⟩)] w2 fun e w5 => e = .returned (.int .i64 d1) ∧ w5.cell? ⟨b, 5, none⟩ = some (.int .i64 c) ∧ Hid (K w5)))

theorem p2a_of {w W : World} {q q1 : Db} {T : Sd} {Q : List Int} (C : ChgD w q W q1 T Q) {R : World → Prop} (hR : ∀ w' q', ChgD w q w' q' { T with lf := T.lf - 1 } Q → R w') : P2a q.b T.lf R W := by
  have c := C.is.cells.2.2.1
  have z := C.is.frozen 2
  have C2 := C.is.setF (T.lf - 1)
  rw [C.b] at c z C2
  exact ⟨c, z, hR _ _ (C.trans C2)⟩

theorem tbl_cell {w : World} {q : Db} {S : Sd} {Q : List Int} (h : IsD w q S Q) (hp : 0 < S.tb.length) : ∃ g cap, q.T = .slice (some ⟨g, 0, none⟩) S.tb.length cap ∧ g ≠ q.b ∧ ∀ j x, S.tb[j]? = some x → w.cell? ⟨g, j * 2 + 1, none⟩ = some (.int .i64 x.n) := by
  have nb := own_off h.tbl h.row (by decide)
  obtain ⟨hl, hh | ⟨g, cap, cur, hv, hb, hg, hc, hm, hs, ht⟩⟩ := h.tbl
  · rw [hh.2] at hp; omega
  · refine ⟨g, cap, hv, fun e => nb (by rw [hv, ← e]; rfl), fun j x hj => ?_⟩
    have hlt := lt_of_get hj
    rw [(show Row w g cur _ from hg).cell]
    have := flatN_at S.tb j x hj 1 (by omega)
    rw [← ht, List.getElem?_take, if_pos (by omega)] at this
    simpa [encN] using this

theorem p2b_of {w W : World} {q q1 : Db} {T : Sd} {Q : List Int} (C : ChgD w q W q1 T Q) (hlf : T.lf = 1) (htn : T.tn < T.tb.length) {g cap : Nat} (hv : q1.T = .slice (some ⟨g, 0, none⟩) T.tb.length cap) {K : World → Prop} (hK : ∀ w' q', ChgD w q w' q' (turS { T with lf := 0 }) Q → K w') : P2b q.b g T.tb.length cap T.tn (nexN T) (turS { T with lf := 0 }).lf (pe { T with lf := 0 }) (pe (turS { T with lf := 0 })) T.c K W := by
  have hlt := nexN_lt htn
  have hme : T.tb[nexN T]? = some T.tb[nexN T] := List.getElem?_eq_getElem hlt
  have c := C.is.cells.2.2.1
  have z := C.is.frozen 2
  have C2 := C.trans (C.is.setF 0)
  rw [C.b] at c z C2
  rw [hlf] at c
  refine ⟨c, z, ?_⟩
  have D := rdom_any _ q1 _ _ C2.is htn
  rw [C.b] at D
  refine D.mono ?_
  rintro e w3 ⟨rfl, n, rfl⟩
  have f3 := fr_drewN (W.setCell ⟨q.b, 2, none⟩ (.int .i64 0)) n
  have C3 := C2.trans (ChgD.same C2.is f3)
  obtain ⟨k0, k1, k2, _⟩ := C3.is.cells
  have z1 := C3.is.frozen 1
  have z2 := C3.is.frozen 2
  obtain ⟨g', cap', hv', _, hx⟩ := tbl_cell C3.is (by show 0 < T.tb.length; omega)
  rw [hv] at hv' k0
  simp only [Value.slice.injEq, Option.some.injEq, Addr.mk.injEq, and_true, true_and] at hv'
  have kx := hx (nexN T) _ hme
  rw [← hv'.1] at kx
  rw [C.b] at k0 k1 k2 z1 z2
  have hlf' : (turS { T with lf := 0 }).lf = T.tb[nexN T].n := by show ((T.tb[nexN T]?).getD ⟨0, 1000⟩).n = _; rw [hme]; rfl
  refine ⟨rfl, k0, k1, k2, z1, z2, by rw [hlf']; exact kx, fun wa wb w2 fa fb f2 => ?_⟩
  have Ca := C3.trans (ChgD.same C3.is fa)
  have Cb := Ca.is.setN (nexN T)
  rw [C.b] at Cb
  have Cc := (Ca.trans Cb)
  have Cd := Cc.trans (ChgD.same Cc.is fb)
  have Ce := Cd.is.setF (turS { T with lf := 0 }).lf
  rw [C.b] at Ce
  have Cf := Cd.trans Ce
  have Cg := Cf.trans (ChgD.same Cf.is f2)
  have Ch : ChgD w q w2 q1 (turS { T with lf := 0 }) Q := Cg.of rfl rfl rfl rfl rfl
  have D2 := rdom_any _ q1 _ _ Ch.is (show nexN { T with lf := 0 } < T.tb.length from hlt)
  rw [C.b] at D2
  refine D2.mono ?_
  rintro e w5 ⟨rfl, n5, rfl⟩
  have Ci := Ch.trans (ChgD.same Ch.is (fr_drewN w2 n5))
  have k5 := Ci.is.cells.2.2.2.2.2
  rw [C.b] at k5
  exact ⟨rfl, k5, hK _ _ Ci⟩

set_option maxRecDepth 100000 in
set_option maxHeartbeats 4000000 in
theorem rtick_a (w : World) (q : Db) (S : Sd) (Q : List Int) (h : IsD w q S Q) (gt : GoodT S) (hc : S.c = -1) :
    Calls Try.prog 36 #[.pointer (some ⟨q.b, 0, none⟩)] w fun e w' => ∃ v, e = .returned v ∧ ∃ q', ChgD w q w' q' (ticS S) (ticQ S Q) := by
  obtain ⟨r1, r2, r3⟩ := speS_rest S
  have htn : (speS S).tn < (speS S).tb.length := by rw [r1, r2]; exact gt.tn
  have l0 := gt.l0
  have l1 := gt.l1
  have es : speS S = S := by unfold speS; rw [if_pos hc]
  have eq : speQ S Q = Q := by unfold speQ; rw [if_pos hc]
  have A := rat_no h (k := S.c) (by rw [hc]; exact fnd_neg h.good)
  have k5 := h.cells.2.2.2.2.2
  have HC : Hid (ChgD w q w q (speS S) (speQ S Q)) := by
    show ChgD _ _ _ _ _ _
    rw [es, eq]
    exact ChgD.same h (Fr.refl _ _)
  have hc1 : (speS S).c = -1 := by rw [es]; exact hc
  by_cases hlf : S.lf = 1
  · have hfr : ¬ ((speS S).c ≠ -1 ∧ pe (turS { speS S with lf := 0 }) ≠ pe { speS S with lf := 0 }) := fun e => e.1 hc1
    have hsf : (speS S).lf = 1 := by rw [r3]; exact hlf
    have hlt := nexN_lt htn
    have hpos : 0 < (speS S).tb.length := Nat.lt_of_le_of_lt (Nat.zero_le _) hlt
    have hz : (((speS S).tb.length : Int) == 0) = false := beq_eq_false_iff_ne.2 (fun e => Nat.ne_of_gt hpos (Int.ofNat.inj e))
    have hle : (speS S).tb.length ≤ 8 := by rw [r1]; exact gt.len
    have i1 : 0 ≤ ((nexN (speS S) : Nat) : Int) ∧ ((nexN (speS S) : Nat) : Int) < ((speS S).tb.length : Int) := ⟨Int.natCast_nonneg _, Int.ofNat_lt.2 hlt⟩
    have i2 : ((speS S).tn : Int) + 1 ≤ 8 := by clear hlt hz; omega
    have hw : wrap64 (((speS S).tn : Int) + 1) = ((speS S).tn : Int) + 1 := by clear hlt hz i1; unfold wrap64; omega
    have hmod : (((speS S).tn : Int) + 1) % ((speS S).tb.length : Int) = ((nexN (speS S) : Nat) : Int) := by unfold nexN; rw [Int.natCast_emod]; rfl
    have ea : ticS S = turS { speS S with lf := 0 } := by
      unfold ticS
      dsimp only
      rw [r3, if_pos hlf]
      unfold nexS
      rw [if_neg hfr]
    have eb : ticQ S Q = speQ S Q := by unfold ticQ; rw [if_pos hlf, if_neg hfr]
    have HB : Hid (∀ W q1 g cap, ChgD w q W q1 (speS S) (speQ S Q) → q1.T = .slice (some ⟨g, 0, none⟩) (speS S).tb.length cap → P2b q.b g (speS S).tb.length cap (speS S).tn (nexN (speS S)) (turS { speS S with lf := 0 }).lf (pe { speS S with lf := 0 }) (pe (turS { speS S with lf := 0 })) (speS S).c (fun W => ∃ q', ChgD w q W q' (ticS S) (ticQ S Q)) W) := fun W q1 g cap C hv => p2b_of C hsf htn hv (fun w' q' C' => ⟨q', by rw [ea, eb]; exact C'⟩)
    obtain ⟨gt', cap', hv', hgb, _⟩ := tbl_cell HC.out.is hpos
    have P := HB.out _ _ _ _ HC.out hv'
    rw [hc1] at P
    obtain ⟨c2, z2, HD⟩ := P
    have hgb' : q.b ≠ gt' := fun e => hgb e.symm
    clear h gt r1 r2 r3 htn l0 l1 hfr ea eb HB HC hv' hc hc1 es eq hlf hsf hlt hle hpos
    generalize ticS S = X at *
    generalize ticQ S Q = Y at *
    generalize (turS { speS S with lf := 0 }).lf = lf' at *
    generalize pe (turS { speS S with lf := 0 }) = d1 at *
    generalize pe { speS S with lf := 0 } = d0 at *
    generalize nexN (speS S) = nx at *
    generalize (speS S).tb.length = m at *
    generalize (speS S).tn = tn at *
    generalize (speS S).lf = lf at *
    generalize speQ S Q = QQ at *
    generalize speS S = SS at *
    generalize S.c = cc at *
    go_enter Try.func36, Try.ntmps36
    go_wp2_with (first | (go_at_call 38; refine HD.out.mono ?_; rintro e w3 ⟨rfl, k0, k1, k2, z1, z3, kx, HD2⟩) | (go_at_call 55; refine A.mono ?_; rintro e wx ⟨rfl, rfl⟩))
    all_goals go_region
    all_goals go_wp2_with fail
    all_goals go_region
    all_goals go_wp2_with (go_at_call 38; refine (HD2.out _ _ _ (by first | exact Fr.refl none' _ | exact (Fr.refl none' _).drew) (by first | exact (Fr.refl none' _).drew | exact Fr.refl none' _) (by first | exact (Fr.refl none' _).drew | exact Fr.refl none' _)).mono ?_; rintro e w5 ⟨rfl, k5, HR⟩)
    all_goals refine post_void rfl rfl fun v => ?_
    all_goals exact ⟨v, rfl, HR.out⟩
  · have ea : ticS S = { speS S with lf := (speS S).lf - 1 } := by unfold ticS; dsimp only; rw [r3, if_neg hlf]
    have eb : ticQ S Q = speQ S Q := by unfold ticQ; rw [if_neg hlf]
    have t1 : decide (0 < (speS S).lf - 1) = true := decide_eq_true (by rw [r3]; omega)
    have t2 : 1 < (speS S).lf := by rw [r3]; omega
    have t3 : decide (1 < (speS S).lf) = true := decide_eq_true t2
    have hw : wrap64 ((speS S).lf - 1) = (speS S).lf - 1 := by rw [r3]; unfold wrap64; omega
    have HA : Hid (∀ W q1, ChgD w q W q1 (speS S) (speQ S Q) → P2a q.b (speS S).lf (fun W => ∃ q', ChgD w q W q' (ticS S) (ticQ S Q)) W) := fun W q1 C => p2a_of C (fun w' q' C' => ⟨q', by rw [ea, eb]; exact C'⟩)
    obtain ⟨c2, z2, HR⟩ := HA.out _ _ HC.out
    clear h gt r1 r2 htn l0 l1 ea eb HA HC hc hc1 es eq hlf
    generalize ticS S = X at *
    generalize ticQ S Q = Y at *
    generalize (turS { speS S with lf := 0 }).lf = lf' at *
    generalize pe (turS { speS S with lf := 0 }) = d1 at *
    generalize pe { speS S with lf := 0 } = d0 at *
    generalize nexN (speS S) = nx at *
    generalize (speS S).tb.length = m at *
    generalize (speS S).tn = tn at *
    generalize (speS S).lf = lf at *
    generalize speQ S Q = QQ at *
    generalize speS S = SS at *
    clear r3
    generalize S.c = cc at *
    go_enter Try.func36, Try.ntmps36
    go_wp2_with (first | (go_at_call 55; refine A.mono ?_; rintro e wx ⟨rfl, rfl⟩))
    refine ret_void rfl rfl fun v => ?_
    exact ⟨v, rfl, HR.out⟩

set_option maxRecDepth 100000 in
set_option maxHeartbeats 4000000 in
theorem rtick_b (w : World) (q : Db) (S : Sd) (Q : List Int) (h : IsD w q S Q) (gt : GoodT S) (hc : S.c ≠ -1) (hf : fnd S.L S.c = some (curT S)) (hs : (curT S).s = 1) (hl : Q.length ≤ 5000) :
    Calls Try.prog 36 #[.pointer (some ⟨q.b, 0, none⟩)] w fun e w' => ∃ v, e = .returned v ∧ ∃ q', ChgD w q w' q' (ticS S) (ticQ S Q) := by
  obtain ⟨r1, r2, r3⟩ := speS_rest S
  have htn : (speS S).tn < (speS S).tb.length := by rw [r1, r2]; exact gt.tn
  have l0 := gt.l0
  have l1 := gt.l1
  obtain ⟨k, hk⟩ := fnd_ix hf
  have A := rat_at h hf hk
  have hkl := lt_of_get hk
  have hti := fnd_i hf
  have okt := h.good.all _ (List.mem_of_getElem? hk)
  have s1 := okt.s1
  obtain ⟨av, cp, hv, _, hn⟩ := h.formL
  obtain ⟨g, rfl, hgb, _, _, _, cs, _, zz⟩ := hn k _ hk
  have z4 := zz (k * 5 + 3)
  have k3 := h.cells.2.2.2.1
  have k5 := h.cells.2.2.2.2.2
  rw [hv] at k3
  have j1 : 0 ≤ (k : Int) ∧ (k : Int) < (S.L.length : Int) := by omega
  have j2 : decide (0 ≤ (k : Int)) = true := decide_eq_true (by omega)
  have C1 := h.setT hk hv (f := setSl ((curT S).s - 1)) (fun _ => rfl) (okt.setSl (by omega) (by omega)) (r := 3) (by omega) (u := .int .i64 ((curT S).s - 1)) rfl
  rw [hti] at C1
  have fd := (Fr.refl none' (w.setCell ⟨g, k * 5 + 3, none⟩ (.int .i64 ((curT S).s - 1)))).drew
  have C1d := C1.trans (ChgD.same C1.is fd)
  have hws : wrap64 ((curT S).s - 1) = (curT S).s - 1 := by unfold wrap64; omega
  have hws2 : IntKind.i64.wrap ((curT S).s - 1) = (curT S).s - 1 := by rw [IntKind.wrap_i64]; omega
  have hgb' : q.b ≠ g := fun e => hgb e.symm
  have es : speS S = yieS { S with L := upd S.L S.c (setSl ((curT S).s - 1)) } := by unfold speS; rw [if_neg hc]; dsimp only; rw [if_pos hs]
  have eq : speQ S Q = yieQ { S with L := upd S.L S.c (setSl ((curT S).s - 1)) } Q := by unfold speQ yieQ; rw [if_neg hc, if_pos hs, if_neg hc]
  have hc1 : (speS S).c = -1 := by rw [es]; unfold yieS; rw [if_neg hc]; rfl
  have HY0 : Hid (Calls Try.prog 35 #[.pointer (some ⟨q.b, 0, none⟩)] (w.setCell ⟨g, k * 5 + 3, none⟩ (.int .i64 ((curT S).s - 1))).drew fun e w2 => e = .returned (.int .i64 0) ∧ ∃ q', ChgD w q w2 q' (speS S) (speQ S Q)) := (ryield_any _ q _ Q C1d.is hl (Or.inr ⟨_, fnd_upd_same hf (fun _ => rfl)⟩)).mono (by
    rintro e w2 ⟨rfl, q', C2⟩
    refine ⟨by unfold yieE; rw [if_neg hc], q', ?_⟩
    rw [es, eq]
    exact C1d.trans C2)
  have j4 : decide ((curT S).s - 1 ≤ 0) = true := decide_eq_true (by omega)
  have j5 : (curT S).s ≤ 1 := by omega
  by_cases hlf : S.lf = 1
  · have hfr : ¬ ((speS S).c ≠ -1 ∧ pe (turS { speS S with lf := 0 }) ≠ pe { speS S with lf := 0 }) := fun e => e.1 hc1
    have hsf : (speS S).lf = 1 := by rw [r3]; exact hlf
    have hlt := nexN_lt htn
    have hpos : 0 < (speS S).tb.length := Nat.lt_of_le_of_lt (Nat.zero_le _) hlt
    have hz : (((speS S).tb.length : Int) == 0) = false := beq_eq_false_iff_ne.2 (fun e => Nat.ne_of_gt hpos (Int.ofNat.inj e))
    have hle : (speS S).tb.length ≤ 8 := by rw [r1]; exact gt.len
    have i1 : 0 ≤ ((nexN (speS S) : Nat) : Int) ∧ ((nexN (speS S) : Nat) : Int) < ((speS S).tb.length : Int) := ⟨Int.natCast_nonneg _, Int.ofNat_lt.2 hlt⟩
    have i2 : ((speS S).tn : Int) + 1 ≤ 8 := by clear hlt hz; omega
    have hw : wrap64 (((speS S).tn : Int) + 1) = ((speS S).tn : Int) + 1 := by clear hlt hz i1; unfold wrap64; omega
    have hmod : (((speS S).tn : Int) + 1) % ((speS S).tb.length : Int) = ((nexN (speS S) : Nat) : Int) := by unfold nexN; rw [Int.natCast_emod]; rfl
    have ea : ticS S = turS { speS S with lf := 0 } := by
      unfold ticS
      dsimp only
      rw [r3, if_pos hlf]
      unfold nexS
      rw [if_neg hfr]
    have eb : ticQ S Q = speQ S Q := by unfold ticQ; rw [if_pos hlf, if_neg hfr]
    have HB : Hid (∀ W q1 g cap, ChgD w q W q1 (speS S) (speQ S Q) → q1.T = .slice (some ⟨g, 0, none⟩) (speS S).tb.length cap → P2b q.b g (speS S).tb.length cap (speS S).tn (nexN (speS S)) (turS { speS S with lf := 0 }).lf (pe { speS S with lf := 0 }) (pe (turS { speS S with lf := 0 })) (speS S).c (fun W => ∃ q', ChgD w q W q' (ticS S) (ticQ S Q)) W) := fun W q1 g cap C hv => p2b_of C hsf htn hv (fun w' q' C' => ⟨q', by rw [ea, eb]; exact C'⟩)
    have HY : Hid (Calls Try.prog 35 #[.pointer (some ⟨q.b, 0, none⟩)] (w.setCell ⟨g, k * 5 + 3, none⟩ (.int .i64 ((curT S).s - 1))).drew fun e w2 => e = .returned (.int .i64 0) ∧ ∃ gt' cap', gt' ≠ q.b ∧ q.b ≠ gt' ∧ P2b q.b gt' (speS S).tb.length cap' (speS S).tn (nexN (speS S)) (turS { speS S with lf := 0 }).lf (pe { speS S with lf := 0 }) (pe (turS { speS S with lf := 0 })) (-1) (fun W => ∃ q', ChgD w q W q' (ticS S) (ticQ S Q)) w2) := HY0.out.mono (by
      rintro e w2 ⟨rfl, q', C⟩
      obtain ⟨gt', cap', hv', hgb', _⟩ := tbl_cell C.is hpos
      have P := HB.out _ _ _ _ C hv'
      rw [hc1] at P
      rw [C.b] at hgb'
      exact ⟨rfl, gt', cap', hgb', fun e => hgb' e.symm, P⟩)
    clear h gt r1 r2 r3 htn l0 l1 hf hk hkl hti okt s1 hv hn zz C1 C1d fd hgb hfr ea eb HB HY0 hc hc1 es eq hlf hsf hlt hle hs hpos
    generalize ticS S = X at *
    generalize ticQ S Q = Y at *
    generalize (turS { speS S with lf := 0 }).lf = lf' at *
    generalize pe (turS { speS S with lf := 0 }) = d1 at *
    generalize pe { speS S with lf := 0 } = d0 at *
    generalize nexN (speS S) = nx at *
    generalize (speS S).tb.length = m at *
    generalize (speS S).tn = tn at *
    generalize (speS S).lf = lf at *
    generalize speQ S Q = QQ at *
    generalize speS S = SS at *
    generalize S.c = cc at *
    generalize S.L.length = N at *
    generalize (curT S).s = sl at *
    go_enter Try.func36, Try.ntmps36
    go_wp2_with (go_at_call 55; refine A.mono ?_; rintro e wx ⟨rfl, rfl⟩)
    go_region
    all_goals go_wp2_with (first | (go_at_call 38; refine HD.out.mono ?_; rintro e w3 ⟨rfl, k0, k1, k2, z1, z3, kx, HD2⟩) | (go_at_call 35; refine HY.out.mono ?_; rintro e w2 ⟨rfl, gt', cap', hgb, hgb', c2, z2, HD⟩))
    all_goals go_region
    all_goals go_wp2_with fail
    all_goals go_region
    all_goals go_wp2_with (go_at_call 38; refine (HD2.out _ _ _ (by first | exact Fr.refl none' _ | exact (Fr.refl none' _).drew) (by first | exact (Fr.refl none' _).drew | exact Fr.refl none' _) (by first | exact (Fr.refl none' _).drew | exact Fr.refl none' _)).mono ?_; rintro e w5 ⟨rfl, k5, HR⟩)
    all_goals refine post_void rfl rfl fun v => ?_
    all_goals exact ⟨v, rfl, HR.out⟩
  · have ea : ticS S = { speS S with lf := (speS S).lf - 1 } := by unfold ticS; dsimp only; rw [r3, if_neg hlf]
    have eb : ticQ S Q = speQ S Q := by unfold ticQ; rw [if_neg hlf]
    have t1 : decide (0 < (speS S).lf - 1) = true := decide_eq_true (by rw [r3]; omega)
    have t2 : 1 < (speS S).lf := by rw [r3]; omega
    have t3 : decide (1 < (speS S).lf) = true := decide_eq_true t2
    have hw : wrap64 ((speS S).lf - 1) = (speS S).lf - 1 := by rw [r3]; unfold wrap64; omega
    have HA : Hid (∀ W q1, ChgD w q W q1 (speS S) (speQ S Q) → P2a q.b (speS S).lf (fun W => ∃ q', ChgD w q W q' (ticS S) (ticQ S Q)) W) := fun W q1 C => p2a_of C (fun w' q' C' => ⟨q', by rw [ea, eb]; exact C'⟩)
    have HY : Hid (Calls Try.prog 35 #[.pointer (some ⟨q.b, 0, none⟩)] (w.setCell ⟨g, k * 5 + 3, none⟩ (.int .i64 ((curT S).s - 1))).drew fun e w2 => e = .returned (.int .i64 0) ∧ P2a q.b (speS S).lf (fun W => ∃ q', ChgD w q W q' (ticS S) (ticQ S Q)) w2) := HY0.out.mono (by
      rintro e w2 ⟨rfl, q', C⟩
      exact ⟨rfl, HA.out _ _ C⟩)
    clear h gt r1 r2 htn l0 l1 hf hk hkl hti okt s1 hv hn zz C1 C1d fd hgb ea eb HA HY0 hc hc1 es eq hlf hs
    generalize ticS S = X at *
    generalize ticQ S Q = Y at *
    generalize (turS { speS S with lf := 0 }).lf = lf' at *
    generalize pe (turS { speS S with lf := 0 }) = d1 at *
    generalize pe { speS S with lf := 0 } = d0 at *
    generalize nexN (speS S) = nx at *
    generalize (speS S).tb.length = m at *
    generalize (speS S).tn = tn at *
    generalize (speS S).lf = lf at *
    generalize speQ S Q = QQ at *
    generalize speS S = SS at *
    clear r3
    generalize S.c = cc at *
    generalize S.L.length = N at *
    generalize (curT S).s = sl at *
    go_enter Try.func36, Try.ntmps36
    go_wp2_with (go_at_call 55; refine A.mono ?_; rintro e wx ⟨rfl, rfl⟩)
    go_region
    all_goals go_wp2_with (go_at_call 35; refine HY.out.mono ?_; rintro e w2 ⟨rfl, c2, z2, HR⟩)
    all_goals refine ret_void rfl rfl fun v => ?_
    all_goals exact ⟨v, rfl, HR.out⟩

end Go.Proofs.Ytipfgenbfnkpfaa
