/-
  The contract of the document's Add over the translation. No statement is proved here.
-/
import Derived.Test.YtcmhndkbcfpbbaaUtRefD
import Derived.Deep.CutBlock
import Derived.Deep.CutRange
namespace Go.Proofs.Ytcmhndkbcfpbbaa
open Go.RowKit

theorem IsQ.addr {w : World} {q : Qb} {L : List Rg} (h : IsQ w q L) {a : Addr} {n cap : Nat} (hv : q.v = .slice (some a) n cap) : ∃ g, a = ⟨g, 0, none⟩ := by
  obtain ⟨_, o | ⟨g', cap', cur, hv', _⟩⟩ := h.own
  · rw [o.1] at hv; cases hv
  · rw [hv] at hv'
    simp only [Value.slice.injEq, Option.some.injEq] at hv'
    exact ⟨g', hv'.1⟩

theorem ins_at {x : Rg} {A B : List Rg} (h1 : ∀ a ∈ A, a.f < x.f) (h2 : ∀ b ∈ B, x.f < b.f) : ins x (A ++ B) = A ++ x :: B := by
  induction A with
  | nil =>
    cases B with
    | nil => rfl
    | cons b B => rw [List.nil_append, ins, if_pos (h2 b List.mem_cons_self)]; rfl
  | cons a A ih =>
    have ha := h1 a List.mem_cons_self
    rw [List.cons_append, ins, if_neg (by omega), ih (fun c hc => h1 c (List.mem_cons_of_mem _ hc))]
    rfl

/-- Where building the new row stands. -/
structure AddI (w wr : World) (q : Qb) (L : List Rg) (v : Value) (A : List Rg) : Prop where
  own : OwnK 39 4 wr w.heap.size v A.length (flatG A)
  is : IsQ wr q L
  fr : Fr none' w wr
theorem AddI.keep0 {w wr w' : World} {q : Qb} {L A : List Rg} {v : Value} (h : AddI w wr q L v A) (f : Fr none' wr w') : AddI w w' q L v A := ⟨h.own.keep0 f, h.is.keep0 f, h.fr.trans f⟩
theorem AddI.form {w wr : World} {q : Qb} {L A : List Rg} {v : Value} (h : AddI w wr q L v A) : ∃ a c, v = .slice a A.length c := by
  by_cases hz : A.length = 0
  · exact ⟨none, 0, by rw [hz]; exact h.own.2 hz⟩
  · obtain ⟨g, cap, cur, e, _⟩ := h.own.row hz
    exact ⟨_, cap, e⟩
theorem AddI.more {w wr : World} {q : Qb} {L A : List Rg} {v : Value} (h : AddI w wr q L v A) (hB : ∀ k, q.s k → k < w.heap.size) (hn : A.length ≤ 2000) (x : Rg) (g : Nat) (r : Row wr g (rgA x) 39) :
    ∃ v' w', (Builtin.append_ #[31, 31] 31 #[v, .slice (some ⟨g, 0, none⟩) 1 1]).run Try.prog wr = .ok v' w' ∧ AddI w w' q L v' (A ++ [x]) ∧ Fr (fun k => some k = v.ownBlock) wr w' := by
  obtain ⟨v', w', h1, f, o⟩ := append_k (T := 31) Try.underlying31 info_reg rfl (by omega) (by omega) wr w.heap.size ⟨g, 0, none⟩ v A.length (flatG A) (encG x) h.fr.size h.own (by omega) rfl (fun j u hu => by
    rw [add_lit', Nat.zero_add, r.cell]
    match j, hu with
    | 0, hu => simpa [encG] using hu
    | 1, hu => simpa [encG] using hu
    | 2, hu => simpa [encG] using hu
    | 3, hu => simpa [encG] using hu
    | j + 4, hu => simp [encG] at hu) (fun u hu => by simp [encG] at hu; rcases hu with rfl | rfl | rfl | rfl <;> rfl)
  have hi : ∀ k, some k = v.ownBlock → w.heap.size ≤ k := fun k hk => h.own.high k hk
  refine ⟨v', w', h1, ⟨?_, h.is.keep f (fun k hk e => by have := hi k e; have := hB k hk; omega), Fr.ownK h.fr f h.own⟩, f⟩
  rw [List.length_append, flatG_append, flatG_one]
  exact o
/-- The rest of the old row behind it. -/
theorem AddI.rest {w wr : World} {q : Qb} {L A : List Rg} {v : Value} (h : AddI w wr q L v A) (hB : ∀ k, q.s k → k < w.heap.size) (hA : A.length ≤ 2000) (hA0 : A ≠ []) (j : Nat) (hj : j ≤ L.length) (hL : L.length ≤ 1024) {g cap : Nat} (hv : q.v = .slice (some ⟨g, 0, none⟩) L.length cap) (a2 : Addr) (c2 : Nat) (ha2 : j < L.length → a2 = ⟨g, j * 4, none⟩) :
    ∃ v' w', (Builtin.append_ #[31, 31] 31 #[v, .slice (some a2) (L.length - j) c2]).run Try.prog wr = .ok v' w' ∧ AddI w w' q L v' (A ++ L.drop j) := by
  have hi := info_reg
  obtain ⟨hl0, hh | ⟨g', cap', cur, hv', hb, hg, hc, hm, hs, ht⟩⟩ := h.is.own
  · rw [hv] at hh; cases hh.1
  · rw [hv] at hv'
    simp only [Value.slice.injEq, Option.some.injEq, Addr.mk.injEq, and_true, true_and] at hv'
    obtain ⟨rfl, rfl⟩ := hv'
    cases hq : Try.prog.info? 39 with
    | none => simp [hq] at hi
    | some i =>
      rw [hq] at hi
      simp only [Option.map_some, Option.some.injEq, Prod.mk.injEq] at hi
      obtain ⟨hz0, hsz, hby⟩ := hi
      have l2 : (flatG (L.drop j)).length = (L.length - j) * 4 := by rw [flatG_len, List.length_drop]
      have tk : flatG L = flatG (L.take j) ++ flatG (L.drop j) := by rw [← flatG_append, List.take_append_drop]
      have l1 : (flatG (L.take j)).length = j * 4 := by rw [flatG_len, List.length_take, Nat.min_eq_left hj]
      obtain ⟨v2, w2, r2, o2, gr2, nil2⟩ := run_append_own (P := Try.prog) (w := wr) w.heap.size 31 31 39 i _ 4 32 Try.underlying31 hq hz0 hsz hby rfl (by omega) v A.length _ h.own.1 a2 (L.length - j) c2 (flatG (L.drop j)) l2
        (fun t u hu => by
          have htl : t < (flatG (L.drop j)).length := by rcases Nat.lt_or_ge t (flatG (L.drop j)).length with h' | h'; exact h'; rw [List.getElem?_eq_none h'] at hu; cases hu
          rw [ha2 (by omega), add_lit']
          have hu2 : (flatG L)[j * 4 + t]? = some u := by rw [tk, List.getElem?_append_right (by omega), l1, show j * 4 + t - j * 4 = t by omega]; exact hu
          rw [(show Row wr g cur 39 from hg).cell]
          rw [← ht, List.getElem?_take] at hu2
          split at hu2
          · simpa using hu2
          · cases hu2)
        (flatG_one' _) (by simp only [maxLen]; omega) (by omega) h.fr.size
      have f : Fr (fun k => some k = v.ownBlock) wr w2 := fr_of_grown gr2
      have hi : ∀ k, some k = v.ownBlock → w.heap.size ≤ k := fun k hk => h.own.high k hk
      refine ⟨v2, w2, r2, ⟨⟨?_, fun e => ?_⟩, h.is.keep f (fun k hk e => by have := hi k e; have := hB k hk; omega), Fr.ownK h.fr f h.own⟩⟩
      · rw [List.length_append, List.length_drop, flatG_append]
        exact o2
      · exfalso
        rw [List.length_append] at e
        exact hA0 (List.length_eq_zero_iff.mp (by omega))

set_option maxRecDepth 100000 in
set_option maxHeartbeats 1000000 in
theorem radd_arg (w : World) (P : Value) (x : Rg) (h : okR x = false) : Calls Try.prog 26 #[P, rgV x] w fun e w' => e = .returned (.int .i64 1) ∧ Fr none' w w' := by
  have f0 := (Fr.refl none' w).alloc (.cells (rgA x) 39)
  have R := fun W => rmay_any x W
  rw [h] at R
  clear h
  obtain ⟨a1, a2, a3, a4⟩ := x
  dsimp only [rgA] at *
  go_enter Try.func26, Try.ntmps26
  go_wp2_with (go_at_call 46; refine (R _).mono ?_; rintro e w1 ⟨rfl, f1⟩)
  go_ret
  exact ⟨rfl, f0.trans f1⟩

set_option maxRecDepth 100000 in
set_option maxHeartbeats 4000000 in
theorem radd_ok (w : World) (q : Qb) (L : List Rg) (h : IsQ w q L) (x : Rg) (hr : okR x = true) (E : Int) (L' : List Rg) (hE : (fnd L x.f = none → E = 0 ∧ L' = ins x L) ∧ ((fnd L x.f).isSome = true → E = 130 ∧ L' = L)) : Calls Try.prog 26 #[.pointer (some ⟨q.b, 0, none⟩), rgV x] w fun e w' => e = .returned (.int .i64 E) ∧ ChgQ w q w' L' := by
  have HE : Hid _ := hE
  clear hE
  have f0 := (Fr.refl none' w).alloc (.cells (rgA x) 39)
  have r0 : RgR (w.alloc (.cells (rgA x) 39)) w.heap.size x := row_alloc w (rgA x) 39
  have R := fun W => rmay_any x W
  rw [hr] at R
  have hlen := len_le h.good
  have HH : Hid (IsQ w q L) := h
  have HR : Hid (okR x = true) := hr
  clear hr h
  dsimp only [rgV, rgA] at *
  go_enter Try.func26, Try.ntmps26
  go_wp2_with fail
  refine (R _).mono ?_
  rintro e w1 ⟨rfl, f1⟩
  replace f0 := f0.trans f1
  replace r0 := r0.keep f1 (fun h => h)
  have h1 := HH.out.keep0 f0
  have T := rat_any w1 q L h1 x.f
  obtain ⟨d0, d1, d2, d3⟩ := r0.cells
  clear R f1
  go_wp2_with fail
  refine T.mono ?_
  rintro e w2 ⟨rfl, ⟨hf, rfl⟩ | ⟨i, y, hf, hi, rfl⟩⟩
  · have HF : Hid (fnd L x.f = none) := hf
    have hB : ∀ k, q.s k → k < w2.heap.size := fun k hk => h1.lt k hk
    have HB : Hid (∀ k, q.s k → k < w2.heap.size) := hB
    have HW : Hid (Fr none' w w2 ∧ RgR w2 w.heap.size x ∧ IsQ w2 q L) := ⟨f0, r0, h1⟩
    obtain ⟨a, cap, hv, hcap, hnil, hn⟩ := h1.form
    have HN : Hid (∀ i n, L[i]? = some n → ∃ g, a = some ⟨g, 0, none⟩ ∧ w2.cell? ⟨g, i * 4, none⟩ = some (.int .i64 n.f) ∧ w2.cell? ⟨g, i * 4 + 1, none⟩ = some (.int .i64 n.n) ∧ w2.cell? ⟨g, i * 4 + 2, none⟩ = some (.int .i64 n.m) ∧ w2.cell? ⟨g, i * 4 + 3, none⟩ = some (.bool n.d)) := fun i n hi => by
      obtain ⟨g, e, c0, c1, c2, c3, _⟩ := hn i n hi
      exact ⟨g, e, c0, c1, c2, c3⟩
    have cb := h1.cell
    rw [hv] at cb
    have HV : Hid (q.v = .slice a L.length cap ∧ (a = none → L = [] ∧ cap = 0) ∧ L.length ≤ cap) := ⟨hv, hnil, hcap⟩
    obtain ⟨M, hM⟩ : ∃ M, M = L.length := ⟨_, rfl⟩
    rw [← hM] at cb hlen hcap
    have HM : Hid (M = L.length) := hM
    have HC : Hid (w2.cell? ⟨q.b, 0, none⟩ = some (.slice a M cap)) := cb
    clear T hf f0 r0 h1 hB hv hn hM hnil d0 d1 d2 d3 cb
    go_upto_block 0 with fail
    go_cut [7, 8] from 20 to 51 (fun v i wc => ∃ j : Nat, j ≤ M ∧ Hid (AddI w2 wc q L v (L.take j) ∧ (∀ a ∈ L.take j, a.f < x.f) ∧ ∀ b ∈ L.drop j, x.f < b.f))
    case first =>
      go_wp2_with fail
      go_loopw [7, 8] (fun v i wr => ∃ j : Nat, j ≤ M ∧ i = .int .i64 (j : Int) ∧ Hid (AddI w2 wr q L v (L.take j) ∧ ∀ a ∈ L.take j, a.f < x.f)) (fun _ i _ => M - (intOf i).toNat)
      case atStart => exact ⟨0, by omega, rfl, ⟨ownk_nil _ _ _ _, HW.out.2.2, Fr.refl _ _⟩, by simp⟩
      case round =>
        obtain ⟨j, hj, rfl, HI⟩ := hrel
        obtain ⟨I, hlt⟩ := HI.out
        obtain ⟨d0, d1, d2, d3⟩ := (HW.out.2.1.keep I.fr (fun h => h)).cells
        have cb := cell_keep I.fr HC.out (fun h => h)
        by_cases hjM : j < M
        · have hjL : j < L.length := by rw [← HM.out]; exact hjM
          obtain ⟨g, rfl, c0, c1, c2, c3⟩ := HN.out j L[j] (List.getElem?_eq_getElem hjL)
          have HX : Hid (L[j]? = some L[j]) := List.getElem?_eq_getElem hjL
          replace c0 := cell_keep I.fr c0 (fun h => h)
          replace c1 := cell_keep I.fr c1 (fun h => h)
          replace c2 := cell_keep I.fr c2 (fun h => h)
          replace c3 := cell_keep I.fr c3 (fun h => h)
          generalize L[j] = y at *
          have HT : Hid (L.take (j + 1) = L.take j ++ [y]) := by
            show _ = _
            rw [List.take_add_one, HX.out]; rfl
          have i1 : 0 ≤ (j : Int) ∧ (j : Int) < (M : Int) := by omega
          have u1 : decide ((j : Int) < (M : Int)) = true := decide_eq_true (by omega)
          clear hjL
          by_cases hyx : y.f < x.f
          · have u2 : decide (y.f < x.f) = true := decide_eq_true hyx
            go_wp2_with fail
            go_quiet (fail)
            have ID := I.keep0 (fr_drewN wr nq)
            have e0 := cell_keep (fr_drewN wr nq) c0 (fun h => h)
            have e1 := cell_keep (fr_drewN wr nq) c1 (fun h => h)
            have e2 := cell_keep (fr_drewN wr nq) c2 (fun h => h)
            have e3 := cell_keep (fr_drewN wr nq) c3 (fun h => h)
            have eb := cell_keep (fr_drewN wr nq) cb (fun h => h)
            clear c0 c1 c2 c3 cb d0 d1 d2 d3 I
            generalize wr.drewN nq = wd at *
            have fy := (Fr.refl none' wd).alloc (.cells (rgA y) 39)
            have ry := row_alloc wd (rgA y) 39
            obtain ⟨v', w', hrun, I', _⟩ := (ID.keep0 fy).more HB.out (by rw [List.length_take]; omega) y wd.heap.size ry
            have HI2 : Hid (AddI w2 w' q L v' (L.take (j + 1)) ∧ ∀ a ∈ L.take (j + 1), a.f < x.f) := by
              refine ⟨by rw [HT.out]; exact I', fun a ha => ?_⟩
              rw [HT.out] at ha
              rcases List.mem_append.mp ha with ha | ha
              · exact hlt a ha
              · rw [List.mem_singleton.mp ha]; exact hyx
            obtain ⟨y1, y2, y3, y4⟩ := y
            dsimp only [rgA] at *
            clear ID fy ry I' HI hlt hyx
            go_wp2_with (first | (at_builtin; refine wpList_append_runK rfl _ _ 31 rfl _ _ rfl rfl _ _ hrun ?_))
            go_roundw
            case rel => exact ⟨j + 1, by omega, by go_num, HI2⟩
            case measure => simp [intOf]; omega
          · have u2 : decide (y.f < x.f) = false := decide_eq_false hyx
            have HI2 : Hid (∀ k, AddI w2 (wr.drewN k) q L u7 (L.take j) ∧ (∀ a ∈ L.take j, a.f < x.f) ∧ ∀ b ∈ L.drop j, x.f < b.f) := fun k => by
              refine ⟨I.keep0 (fr_drewN wr k), hlt, fun b hb => ?_⟩
              have hne := fnd_none HF.out y (List.mem_of_getElem? HX.out)
              have hs := HW.out.2.2.good.srt
              obtain ⟨t, ht, e⟩ := List.mem_iff_getElem.mp hb
              rw [List.getElem_drop] at e
              rw [List.length_drop] at ht
              have hjl : j < L.length := by omega
              have ey : L[j] = y := by have := HX.out; rw [List.getElem?_eq_getElem hjl] at this; exact Option.some.inj this
              by_cases t0 : t = 0
              · subst t0
                have : b = y := by rw [← e, ← ey]; rfl
                rw [this]; omega
              · have := List.pairwise_iff_getElem.1 hs j (j + t) hjl (by omega) (by omega)
                rw [ey, e] at this
                omega
            go_wp2_with fail
            go_quiet (fail)
            clear I hlt HI
            go_wp2_with fail
            go_meet
            case rel => exact ⟨j, hj, HI2.out _⟩
        · have u1 : decide ((j : Int) < (M : Int)) = false := decide_eq_false (by omega)
          have HI2 : Hid (∀ k, AddI w2 (wr.drewN k) q L u7 (L.take j) ∧ (∀ a ∈ L.take j, a.f < x.f) ∧ ∀ b ∈ L.drop j, x.f < b.f) := fun k => by
            refine ⟨I.keep0 (fr_drewN wr k), hlt, fun b hb => ?_⟩
            rw [List.drop_eq_nil_of_le (by rw [← HM.out]; omega)] at hb
            cases hb
          go_wp2_with fail
          go_quiet (fail)
          clear I hlt HI
          go_wp2_with fail
          go_meet
          case rel => exact ⟨j, hj, HI2.out _⟩
    case rest =>
      obtain ⟨j, hj, HI⟩ := hcut
      obtain ⟨I, hlt, hgt⟩ := HI.out
      obtain ⟨rfl, rfl⟩ := HE.out.1 HF.out
      have HJ : Hid (ins x L = (L.take j ++ [x]) ++ L.drop j) := by
        have := ins_at hlt hgt
        rw [List.take_append_drop] at this
        show _ = _
        rw [this]; simp
      obtain ⟨d0, d1, d2, d3⟩ := (HW.out.2.1.keep I.fr (fun h => h)).cells
      obtain ⟨a', c', e7⟩ := I.form
      have hln : (L.take j).length = j := by rw [List.length_take, ← HM.out]; omega
      rw [hln] at e7
      subst e7
      have fx := (Fr.refl none' wc).alloc (.cells (rgA x) 39)
      have rx := row_alloc wc (rgA x) 39
      obtain ⟨v2, w3, hrun1, I3, _⟩ := (I.keep0 fx).more HB.out (by rw [hln]; omega) x wc.heap.size rx
      have cb := cell_keep I3.fr HC.out (fun h => h)
      have HG : Hid (GoodL (ins x L)) := good_ins HW.out.2.2.good HR.out HF.out
      have hl1 : (L.take j ++ [x]).length = j + 1 := by rw [List.length_append, hln]; rfl
      have HS : Hid (∀ v3 w4, AddI w2 w4 q L v3 ((L.take j ++ [x]) ++ L.drop j) → w4.cell? ⟨q.b, 0, none⟩ = some (.slice a M cap) ∧ w4.frozen? ⟨q.b, 0, none⟩ = false ∧ ChgQ w q (w4.setCell ⟨q.b, 0, none⟩ v3) (ins x L)) := fun v3 w4 I4 => by
        rw [← HJ.out] at I4
        have fr : Fr none' w w4 := HW.out.1.trans I4.fr
        refine ⟨cell_keep I4.fr HC.out (fun h => h), I4.is.row.frozen 0, HH.out.cut I4.is fr (fun k hk => Nat.le_trans HW.out.1.size (I4.own.high k hk)) HG.out (ownsRow_zero I4.own.1)⟩
      have hX : (L.take j ++ [x]) ≠ [] := by simp
      have k3 : (j : Int).toNat = j := by omega
      have k5 : (0 : Int) ≤ (j : Int) := by omega
      have k6 : (j : Int) ≤ (M : Int) := by omega
      have jc : j ≤ cap := by omega
      cases a with
      | none =>
        obtain ⟨hL0, hc0⟩ := HV.out.2.1 rfl
        obtain rfl : M = 0 := by rw [HM.out, hL0]; rfl
        obtain rfl : j = 0 := by omega
        subst hc0
        have hi := info_reg
        cases hq : Try.prog.info? 39 with
        | none => simp [hq] at hi
        | some i =>
          have hrun2 := run_append_owned_none (P := Try.prog) (w := w3) w2.heap.size 31 31 39 i 4 Try.underlying31 hq v2 _ _ I3.own.1
          obtain ⟨b1, b2, b3⟩ := HS.out v2 w3 (by rw [hL0] at I3 ⊢; simpa using I3)
          obtain ⟨a9, c9, e9⟩ := I3.form
          rw [hl1] at e9
          subst e9
          have HD : Hid (ChgQ w q (w3.setCell ⟨q.b, 0, none⟩ (.slice a9 1 c9)) (ins x L)) := b3
          clear b3 HS I3 I HI HW HN hi hq rx fx hlt hgt hX hL0 hln hl1
          obtain ⟨x1, x2, x3, x4⟩ := x
          dsimp only [rgA] at *
          go_wp2_with (first | (at_builtin; refine wpList_append_runK rfl _ _ 31 rfl _ _ rfl rfl _ _ hrun1 ?_) | (at_builtin; refine wpList_append_runK rfl _ _ 31 rfl _ _ rfl rfl _ _ hrun2 ?_))
          go_ret
          exact ⟨rfl, HD.out⟩
      | some ga =>
        obtain ⟨g, rfl⟩ := HW.out.2.2.addr HV.out.1
        by_cases hcj : cap = j
        · skip
          obtain rfl : M = cap := by omega
          obtain rfl : j = M := by omega
          obtain ⟨v3, w4, hrun2, I4⟩ := I3.rest HB.out (by rw [hl1]; omega) hX j (by rw [← HM.out]; omega) (by rw [← HM.out]; omega) HV.out.1 ⟨g, 0, none⟩ 0 (fun h => by rw [← HM.out] at h; omega)
          rw [← HM.out, Nat.sub_self] at hrun2
          obtain ⟨b1, b2, b3⟩ := HS.out v3 w4 I4
          obtain ⟨a8, c8, e8⟩ := I3.form
          rw [hl1] at e8
          subst e8
          obtain ⟨a9, c9, e9⟩ := I4.form
          generalize (L.take j ++ [x] ++ L.drop j).length = n9 at e9
          subst e9
          have HD : Hid (ChgQ w q (w4.setCell ⟨q.b, 0, none⟩ (.slice a9 n9 c9)) (ins x L)) := b3
          clear b3 HS I3 I4 I HI HW HN rx fx hlt hgt hX hln hl1 HJ HV HM
          obtain ⟨x1, x2, x3, x4⟩ := x
          dsimp only [rgA] at *
          go_wp2_with (first | (at_builtin; refine wpList_append_runK rfl _ _ 31 rfl _ _ rfl rfl _ _ hrun1 ?_) | (at_builtin; refine wpList_append_runK rfl _ _ 31 rfl _ _ rfl rfl _ _ hrun2 ?_))
          go_ret
          exact ⟨rfl, HD.out⟩
        · skip
          obtain ⟨v3, w4, hrun2, I4⟩ := I3.rest HB.out (by rw [hl1]; omega) hX j (by rw [← HM.out]; omega) (by rw [← HM.out]; omega) HV.out.1 ⟨g, j * 4, none⟩ (cap - j) (fun _ => rfl)
          rw [← HM.out] at hrun2
          obtain ⟨b1, b2, b3⟩ := HS.out v3 w4 I4
          obtain ⟨a8, c8, e8⟩ := I3.form
          rw [hl1] at e8
          subst e8
          obtain ⟨a9, c9, e9⟩ := I4.form
          generalize (L.take j ++ [x] ++ L.drop j).length = n9 at e9
          subst e9
          have HD : Hid (ChgQ w q (w4.setCell ⟨q.b, 0, none⟩ (.slice a9 n9 c9)) (ins x L)) := b3
          clear b3 HS I3 I4 I HI HW HN rx fx hlt hgt hX hln hl1 HJ HV HM
          obtain ⟨x1, x2, x3, x4⟩ := x
          dsimp only [rgA] at *
          go_wp2_with (first | (at_builtin; refine wpList_append_runK rfl _ _ 31 rfl _ _ rfl rfl _ _ hrun1 ?_) | (at_builtin; refine wpList_append_runK rfl _ _ 31 rfl _ _ rfl rfl _ _ hrun2 ?_))
          go_ret
          exact ⟨rfl, HD.out⟩
  · obtain ⟨rfl, rfl⟩ := HE.out.2 (by rw [hf]; rfl)
    have HC : Hid (ChgQ w q w2 L') := ChgQ.same HH.out f0
    clear T h1 hf hi HH
    go_wp2_with fail
    go_ret
    exact ⟨rfl, HC.out⟩

theorem radd_any (w : World) (q : Qb) (L : List Rg) (h : IsQ w q L) (x : Rg) : Calls Try.prog 26 #[.pointer (some ⟨q.b, 0, none⟩), rgV x] w fun e w' => e = .returned (.int .i64 (addE L x)) ∧ ChgQ w q w' (addS L x) := by
  cases hr : okR x with
  | false =>
    have e1 : addE L x = 1 := by unfold addE; rw [hr]; rfl
    have e2 : addS L x = L := by unfold addS; rw [e1]; rfl
    rw [e1, e2]
    exact (radd_arg w _ x hr).mono fun _ _ ⟨h1, h2⟩ => ⟨h1, ChgQ.same h h2⟩
  | true =>
    refine radd_ok w q L h x hr _ _ ⟨fun hf => ?_, fun hf => ?_⟩
    · have e1 : addE L x = 0 := by unfold addE; rw [hr, hf]; rfl
      exact ⟨e1, by unfold addS; rw [e1]; rfl⟩
    · have e1 : addE L x = 130 := by unfold addE; rw [hr, hf]; rfl
      exact ⟨e1, by unfold addS; rw [e1]; rfl⟩

end Go.Proofs.Ytcmhndkbcfpbbaa
