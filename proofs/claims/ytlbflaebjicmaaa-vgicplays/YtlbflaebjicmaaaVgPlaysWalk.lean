/-
  VgicPlays over the translation: whatever acts came in, the law returns true, and nothing old turns. No statement is proved here.
-/
import Derived.Test.YtlbflaebjicmaaaVgAwake
import Derived.Test.YtlbflaebjicmaaaVgMeans
namespace Go.Proofs.Ytlbflaebjicmaaa
open Go.RowKit

theorem neq_answer (i j : Int) (b : Bool) (w : World) : (binOp .neq 32 (.agg #[.int .i64 i, .bool b, .int .i64 j]) (.agg #[.int .i64 i, .bool b, .int .i64 j])).run Try.prog w = .ok (.bool false) w := by
  simp [go_sem]

theorem LrS.toAn {w : World} {B : Nat} {a : Option Addr} {n c : Nat} {L : List Lr} (h : LrS w B (.slice a n c) L) : LrA w a L := by
  rcases h with ⟨rfl, _⟩ | ⟨g, cap, cs, e, _, _, _, hr, hx⟩
  · exact fun i x h => by simp at h
  · simp only [Value.slice.injEq] at e
    intro i x h
    have q := hx i x h
    exact ⟨g, e.1, (hr.cell _).trans q.c0, (hr.cell _).trans q.c1, (hr.cell _).trans q.c2, (hr.cell _).trans q.c3, (hr.cell _).trans q.c4⟩

theorem rnext_v (w : World) (b : Nat) (S : Vg) (h : IsRv w b S) :
    Calls Try.prog 15 #[.pointer (some ⟨b, 0, none⟩)] w fun e w' => e = .returned (.tuple #[.int .i64 (nId (nextO S)), .bool (nextO S).isSome]) ∧ Fr none' w w' := by
  obtain ⟨⟨T, hT, hR⟩, hg⟩ := h
  exact rnext_any w b T S hT hR
theorem rall_v (w : World) (b : Nat) (S : Vg) (h : IsRv w b S) :
    Calls Try.prog 17 #[.pointer (some ⟨b, 0, none⟩)] w fun e w' => ∃ v, e = .returned v ∧ LrS w' w.heap.size v (allL S) ∧ Fr none' w w' := by
  obtain ⟨⟨T, hT, hR⟩, hg⟩ := h
  exact rall_any w b T S hT hR hg

theorem rnew_any (w : World) (n : Int) : Calls Try.prog 11 #[.int .i64 n] w fun e w' => (isR n = false ∧ e = .returned (.tuple #[.pointer none, .int .i64 1]) ∧ w' = w) ∨
    (isR n = true ∧ ∃ b, e = .returned (.tuple #[.pointer (some ⟨b, 0, none⟩), .int .i64 0]) ∧ w.heap.size ≤ b ∧ Fr none' w w' ∧ IsRv w' b (zeroV n)) := by
  cases hn : isR n with
  | false => exact (rnew_bad w n hn).mono fun e w' h => Or.inl ⟨rfl, h⟩
  | true => exact (rnew_ok w n hn).mono fun e w' h => Or.inr ⟨rfl, h⟩

set_option maxRecDepth 100000 in
set_option maxHeartbeats 4000000 in
theorem plays_row (lrs : Int) (a0 : Option Addr) (len cap : Nat) (w : World) (hl : len ≤ 9223372036854775807) (ha : Acts w a0 len) :
    Calls Try.prog 3 #[.int .i64 lrs, .slice a0 len cap] w fun e w' => e = .returned (.bool true) ∧ Fr none' w w' := by
  have HA : Hid (Acts w a0 len) := ha
  have hne := neq_answer
  clear ha
  cases hR : isR lrs with
  | false =>
    go_enter Try.func3, Try.ntmps3
    go_wp2_with fail
    refine (awake_any _).mono ?_
    rintro e w1 ⟨rfl, f1⟩
    go_wp2_with fail
    refine (new_bad _ lrs hR).mono ?_
    rintro e w2 ⟨rfl, rfl⟩
    go_wp2_with fail
    refine (rnew_bad _ lrs hR).mono ?_
    rintro e w3 ⟨rfl, rfl⟩
    go_wp2_with fail
    go_ret
    exact ⟨rfl, f1⟩
  | true =>
    have hlr := isR_iff.mp hR
    obtain ⟨r, rfl⟩ : ∃ r : Nat, lrs = (r : Int) := ⟨lrs.toNat, by omega⟩
    have hr1 : 1 ≤ r ∧ r ≤ 16 := by omega
    clear hlr
    go_enter Try.func3, Try.ntmps3
    go_wp2_with fail
    refine (awake_any _).mono ?_
    rintro e w1 ⟨rfl, f1⟩
    go_wp2_with fail
    refine (new_ok _ (r : Int) hR).mono ?_
    rintro e w2 ⟨B, rfl, hb, f2, t2⟩
    have hb0 : ∀ k, B.s k → w.heap.size ≤ k := fun k hk => Nat.le_trans f1.size (hb k hk)
    replace f2 := f1.trans f2
    clear hb f1
    go_wp2_with fail
    refine (rnew_ok _ (r : Int) hR).mono ?_
    rintro e w3 ⟨b, rfl, hbb, f3, t3⟩
    have HB : Hid ((∀ k, B.s k → w.heap.size ≤ k) ∧ w.heap.size ≤ b ∧ ¬ B.s b) := ⟨hb0, Nat.le_trans f2.size hbb, fun e => by have := t2.lt b e; omega⟩
    have t2' := t2.keep0 f3
    replace f3 := f2.trans f3
    clear f2 t2 hb0 hbb hR
    go_wp2_with fail
    go_loopw [10] (fun i wr => ∃ (k : Nat) (S : Vg), k ≤ len ∧ k ≤ 100 ∧ i = .int .i64 k ∧ Fr none' w wr ∧ IsVg wr B S ∧ IsRv wr b S ∧ Hid (S.lrs = (r : Int))) (fun i _ => 100 - (intOf i).toNat)
    case atStart => exact ⟨0, zeroV r, by omega, by omega, rfl, f3, t2', t3, rfl⟩
    case round =>
      clear f3 t2' t3
      obtain ⟨k, S, hk1, hk2, rfl, fk, hS, hT, HLr⟩ := hrel
      by_cases hin : k < len ∧ k < 100
      · obtain ⟨b0, o, d, n, x, on, rfl, hact⟩ := HA.out k hin.1
        obtain ⟨c0, c1, c2, c3⟩ := hact.keep fk (fun h => h)
        have HAct : Hid (ActIs w b0 (o + k * 4) d n x on) := hact
        have i1 : 0 ≤ (k : Int) ∧ (k : Int) < (len : Int) := by omega
        have u1 : decide ((k : Int) < (len : Int)) = true := decide_eq_true (by omega)
        have u2 : decide ((k : Int) < 100) = true := decide_eq_true (by omega)
        have hA := does_any wr B S hS d n x on
        have hM : ∀ W, IsRv W b S → Calls Try.prog 13 #[.pointer (some ⟨b, 0, none⟩), .agg #[.int .i64 d, .int .i64 n, .int .i64 x, .bool on]] W fun e w' => e = .returned (.agg #[.int .i64 (ansN d S), .bool (ansF d n S), .int .i64 (ansE d n x S)]) ∧ Rch W b (stepS d n x on S) w' := fun W h => means_any W b S h d n x on
        have HL2 : Hid ((stepS d n x on S).lrs = (r : Int)) := by show _ = _; rw [lrs_step]; exact HLr.out
        have hblt : b < wr.heap.size := hT.lt b rfl
        generalize ansN d S = vN at *
        generalize ansF d n S = vF at *
        generalize ansE d n x S = vE at *
        generalize stepS d n x on S = S' at *
        clear hact HLr
        go_wp2_with fail
        refine hA.mono ?_
        rintro e w5 ⟨rfl, f5, s5⟩
        have fa := (Fr.refl none' w5).alloc (.cells #[.int .i64 vN, .bool vF, .int .i64 vE] 32)
        have T5 := (hT.keep f5 HB.out.2.2).keep0 fa
        have F5 := (fk.lone f5 HB.out.1).trans fa
        have S5 := s5.keep0 fa
        have r5 := row_alloc w5 #[.int .i64 vN, .bool vF, .int .i64 vE] 32
        have n5 : ¬ at' b w5.heap.size := fun e => by have e' : w5.heap.size = b := e; have := f5.size; omega
        clear c0 c1 c2 c3 hA
        obtain ⟨c0, c1, c2, c3⟩ := HAct.out.keep F5 (fun h => h)
        clear fk hS hT f5 fa s5 hblt
        go_wp2_with fail
        refine (hM _ T5).mono ?_
        rintro e w6 ⟨rfl, f6, t6⟩
        have fb := (Fr.refl none' w6).alloc (.cells #[.int .i64 vN, .bool vF, .int .i64 vE] 32)
        have r6 := row_alloc w6 #[.int .i64 vN, .bool vF, .int .i64 vE] 32
        have q5 := (r5.keep f6 n5).keep fb (fun h => h)
        have S6 := (S5.keep f6 (fun q hq e => HB.out.2.2 (by have e' : q = b := e; rwa [e'] at hq))).keep0 fb
        have T6 := t6.keep0 fb
        have F6 := (F5.newer f6 HB.out.2.1).trans fb
        clear c0 c1 c2 c3 f6 S5 T5 F5 t6 r5 n5 fb hM HAct
        go_wp2_with fail
        refine (next_any _ B S' S6).mono ?_
        rintro e w7 ⟨rfl, f7⟩
        have S7 := S6.keep0 f7
        have T7 := T6.keep0 f7
        have F7 := F6.trans f7
        have x5 := q5.keep f7 (fun h => h)
        have x6 := r6.keep f7 (fun h => h)
        have hN : ∀ W, IsRv W b S' → Calls Try.prog 15 #[.pointer (some ⟨b, 0, none⟩)] W fun e w' => e = .returned (.tuple #[.int .i64 (nId (nextO S')), .bool (nextO S').isSome]) ∧ Fr none' W w' := fun W h => rnext_v W b S' h
        generalize nId (nextO S') = ni at *
        generalize (nextO S').isSome = no at *
        clear S6 T6 F6 f7 q5 r6
        go_wp2_with fail
        refine (hN _ T7).mono ?_
        rintro e w8 ⟨rfl, f8⟩
        have S8 := S7.keep0 f8
        have T8 := T7.keep0 f8
        have F8 := F7.trans f8
        have y5 := x5.keep f8 (fun h => h)
        have y6 := x6.keep f8 (fun h => h)
        have hAll := all_any _ B S' S8
        have hRA : ∀ W, IsRv W b S' → Calls Try.prog 17 #[.pointer (some ⟨b, 0, none⟩)] W fun e w' => ∃ v, e = .returned v ∧ LrS w' W.heap.size v (allL S') ∧ Fr none' W w' := fun W h => rall_v W b S' h
        have hLr : ∀ W, IsVg W B S' → Calls Try.prog 18 #[.pointer (some ⟨B.b, 0, none⟩)] W fun e w' => ∃ v, e = .returned v ∧ LrS w' W.heap.size v ((allL S').take r) ∧ Fr none' W w' := fun W h => by
          have := lrs_any W B S' h
          rwa [HL2.out, show ((r : Int)).toNat = r by simp] at this
        have hL64 := len_all S8.good
        generalize allL S' = L at *
        clear S7 T7 F7 f8 x5 x6 hN
        go_wp2_with fail
        refine hAll.mono ?_
        rintro e w9 ⟨v9, rfl, l9, f9⟩
        have S9 := S8.keep0 f9
        have T9 := T8.keep0 f9
        have F9 := F8.trans f9
        have z5 := y5.keep f9 (fun h => h)
        have z6 := y6.keep f9 (fun h => h)
        clear S8 T8 F8 f9 y5 y6 hAll
        go_wp2_with fail
        refine (hRA _ T9).mono ?_
        rintro e wA ⟨vA, rfl, lA, fA⟩
        have SA := S9.keep0 fA
        have TA := T9.keep0 fA
        have FA := F9.trans fA
        have A5 := z5.keep fA (fun h => h)
        have A6 := z6.keep fA (fun h => h)
        have l9A := l9.keep0 fA
        clear S9 T9 F9 fA z5 z6 hRA l9
        go_wp2_with fail
        refine (hLr _ SA).mono ?_
        rintro e wB ⟨vB, rfl, lB, fB⟩
        have SB := SA.keep0 fB
        have TB := TA.keep0 fB
        have FB := FA.trans fB
        have B5 := A5.keep fB (fun h => h)
        have B6 := A6.keep fB (fun h => h)
        have l9B := l9A.keep0 fB
        have lAB := lA.keep0 fB
        obtain ⟨a1, c1, rfl, hc1, _, h1, _⟩ := l9B.open
        obtain ⟨a2, c2, rfl, hc2, hm2, h2, hs2⟩ := lAB.open
        have HL := lists_any _ a1 a2 c1 c2 _ _ h1 h2 (by omega)
        rw [decide_eq_true rfl] at HL
        clear SA TA FA fB A5 A6 l9A lA l9B lAB h1 h2 hLr
        go_wp2_with fail
        refine HL.mono ?_
        rintro e wC ⟨rfl, fC⟩
        have SC := SB.keep0 fC
        have TC := TB.keep0 fC
        have FC := FB.trans fC
        have C5 := B5.keep fC (fun h => h)
        have C6 := B6.keep fC (fun h => h)
        have lBC := lB.keep0 fC
        have s2C := hs2.keep0 fC
        have k2 := s2C.take (min L.length r) (by omega)
        have e2 : L.take r = L.take (min L.length r) := by
          rw [Nat.min_comm, ← List.take_take, List.take_of_length_le (Nat.le_refl L.length)]
        rw [e2] at lBC
        obtain ⟨a3, c3, rfl, _, _, h3, _⟩ := lBC.open
        have hlen2 : (L.take (min L.length r)).length = min L.length r := by rw [List.length_take]; omega
        have h4 : LrA wC a2 (L.take (min L.length r)) := k2.toAn
        have HL3 := lists_any _ a3 a2 c3 c2 _ _ h3 h4 (by rw [hlen2]; omega)
        rw [decide_eq_true rfl, hlen2] at HL3
        rw [hlen2]
        generalize hmn : min L.length r = mn at *
        have i4 : (min (L.length : Int) (r : Int)) = (mn : Int) := by omega
        have i5 : 0 ≤ (mn : Int) ∧ (mn : Int) ≤ (c2 : Int) := by omega
        clear SB TB FB fC B5 B6 lB hs2 lBC s2C k2 e2 h3 h4 HL hlen2
        go_wp2_with fail
        refine HL3.mono ?_
        rintro e wD ⟨rfl, fD⟩
        have SD := SC.keep0 fD
        have TD := TC.keep0 fD
        have FD := FC.trans fD
        have D5 := C5.keep fD (fun h => h)
        have D6 := C6.keep fD (fun h => h)
        clear SC TC FC fD C5 C6 HL3
        go_wp2_with fail
        refine (counts_any _ B S' SD).mono ?_
        rintro e wE ⟨rfl, fE⟩
        have SE := SD.keep0 fE
        have TE := TD.keep0 fE
        have FE := FD.trans fE
        have E5 := D5.keep fE (fun h => h)
        have E6 := D6.keep fE (fun h => h)
        obtain ⟨⟨T, hT, -⟩, -⟩ := id TE
        obtain ⟨-, -, n2, n3, n4⟩ := hT.nums
        have d0 := E5.cell 0
        have d1 := E5.cell 1
        have d2 := E5.cell 2
        have e0 := E6.cell 0
        have e1 := E6.cell 1
        have e2 := E6.cell 2
        have v1 : (ni != ni) = false := by simp
        have v2 : (no != no) = false := by simp
        have v3 : (S'.inj != S'.inj) = false := by simp
        have v4 : (S'.ack != S'.ack) = false := by simp
        have v5 : (S'.en != S'.en) = false := by simp
        clear SD TD FD fE D5 D6 E5 E6 hT
        go_wp2_with fail
        go_roundw
        case rel => exact ⟨k + 1, S', by omega, by omega, by go_num, FE, SE, TE, HL2⟩
        case measure => simp [intOf]; omega
      · have hcs : (¬ k < len) ∨ (k < len ∧ k = 100) := by omega
        clear hin
        rcases hcs with u1 | ⟨u1, rfl⟩
        all_goals
          go_wp2_with fail
          go_ret
          exact ⟨rfl, fk⟩

theorem plays_any (lrs : Int) (a0 : Option Addr) (len cap : Nat) (w : World) (hl : len ≤ 9223372036854775807) (ha : Acts w a0 len) :
    Calls Try.prog 3 #[.int .i64 lrs, .slice a0 len cap] w fun e w' => e = .returned (.bool true) ∧ Below w.heap.size w w' :=
  (plays_row lrs a0 len cap w hl ha).mono fun _ _ ⟨he, hf⟩ => ⟨he, hf.below (Nat.le_refl _) (fun _ h => h.elim)⟩

end Go.Proofs.Ytlbflaebjicmaaa
