/-
  VgicNests over the translation: whatever acts came in, the law returns true, and nothing old turns. No statement is proved here.
-/
import Derived.Test.YtlbflaebjicmaaaVgAwake
namespace Go.Proofs.Ytlbflaebjicmaaa
open Go.RowKit

def isMine (k : Nat) (x : Lr) : Bool := x.id == (k : Int) && (!x.ac && x.pe)

theorem mine_is {S : Vg} (g : Good S) {k : Nat} {p : Int} {l : Bool} (hp : S.pe k = some (p, l)) {x : Lr} (hx : x ∈ allL S) (hm : isMine k x = true) : x.p = p := by
  obtain ⟨j, hj, _, rfl⟩ := (mem_allL g x).mp hx
  unfold isMine at hm
  rw [reg_id, reg_ac, reg_pe] at hm
  simp only [Bool.and_eq_true, beq_iff_eq, Bool.not_eq_true'] at hm
  obtain ⟨h1, h2, h3⟩ := hm
  obtain rfl : j = k := by omega
  cases ha : S.ac j with
  | some q => rw [ha] at h2; cases h2
  | none => rw [reg_pend ha hp]
theorem mine_there {S : Vg} (g : Good S) {k : Nat} {p : Int} {l : Bool} (hk : k < 64) (hp : S.pe k = some (p, l)) (ha : S.ac k = none) : ∃ (i : Nat) (x : Lr), (allL S)[i]? = some x ∧ isMine k x = true := by
  have hm : reg S k ∈ allL S := (mem_allL g _).mpr ⟨k, hk, by simp [here, hp], rfl⟩
  obtain ⟨i, hi, e⟩ := List.getElem_of_mem hm
  refine ⟨i, reg S k, by rw [List.getElem?_eq_getElem hi, e], ?_⟩
  rw [reg_pend ha hp]
  simp [isMine]
theorem active_more {S : Vg} (g : Good S) {x : Lr} (hx : x ∈ allL S) (ha : x.ac = true) : run S ≤ x.p := by
  obtain ⟨j, hj, _, rfl⟩ := (mem_allL g x).mp hx
  rw [reg_ac] at ha
  cases hq : S.ac j with
  | none => rw [hq] at ha; cases ha
  | some q =>
    obtain ⟨q, m⟩ := q
    rw [reg_some hq]
    exact (runN_le S 64).2 j q m hj hq

set_option maxRecDepth 100000 in
set_option maxHeartbeats 4000000 in
theorem nests_row (lrs : Int) (a0 : Option Addr) (len cap : Nat) (w : World) (hl : len ≤ 9223372036854775807) (ha : Acts w a0 len) :
    Calls Try.prog 7 #[.int .i64 lrs, .slice a0 len cap] w fun e w' => e = .returned (.bool true) ∧ Fr none' w w' := by
  have HA : Hid (Acts w a0 len) := ha
  clear ha
  go_enter Try.func7, Try.ntmps7
  go_wp2_with fail
  refine (awake_any _).mono ?_
  rintro e w1 ⟨rfl, f1⟩
  go_wp2_with fail
  refine (new_any _ lrs).mono ?_
  rintro e w2 (⟨_, rfl, rfl⟩ | ⟨_, B, rfl, hb, f2, t2⟩)
  · go_wp2_with fail
    go_ret
    exact ⟨rfl, f1⟩
  · have hb0 : ∀ k, B.s k → w.heap.size ≤ k := fun k hk => Nat.le_trans f1.size (hb k hk)
    replace f2 := f1.trans f2
    clear hb f1
    go_wp2_with fail
    go_loopw [8] (fun i wr => ∃ (k : Nat) (S : Vg), k ≤ len ∧ k ≤ 100 ∧ i = .int .i64 k ∧ Fr none' w wr ∧ IsVg wr B S) (fun i _ => 100 - (intOf i).toNat)
    case atStart => exact ⟨0, _, by omega, by omega, rfl, f2, t2⟩
    case round =>
      clear f2 t2
      obtain ⟨k, S, hk1, hk2, rfl, fk, hT⟩ := hrel
      by_cases hin : k < len ∧ k < 100
      · obtain ⟨b0, o, d, n, x, on, rfl, hact⟩ := HA.out k hin.1
        obtain ⟨c0, c1, c2, c3⟩ := hact.keep fk (fun h => h)
        have i1 : 0 ≤ (k : Int) ∧ (k : Int) < (len : Int) := by omega
        have u1 : decide ((k : Int) < (len : Int)) = true := decide_eq_true (by omega)
        have u2 : decide ((k : Int) < 100) = true := decide_eq_true (by omega)
        have hA := does_any wr B S hT d n x on
        generalize ansN d S = vN at *
        generalize ansF d n S = vF at *
        generalize ansE d n x S = vE at *
        generalize stepS d n x on S = S' at *
        clear hact
        go_wp2_with fail
        refine hA.mono ?_
        rintro e w5 ⟨rfl, f5, s5⟩
        have F5 := fk.lone f5 hb0
        clear fk hT f5 c0 c1 c2 c3 hA
        go_wp2_with fail
        go_roundw
        case rel => first | exact ⟨k + 1, S', by omega, by omega, by go_num, F5, s5⟩ | exact ⟨k + 1, S', by omega, by omega, by go_num, F5.alloc _, s5.alloc _⟩
        case measure => simp [intOf]; omega
      · have hcs : (¬ k < len) ∨ (k < len ∧ k = 100) := by omega
        clear hin
        have hg := hT.good
        rcases hcs with u1 | ⟨u1, rfl⟩
        all_goals
          go_wp2_with fail
          refine (all_any _ B S hT).mono ?_
          rintro e w3 ⟨v3, rfl, l3, f3⟩
          have F3 := fk.trans f3
          have T3 := hT.keep0 f3
          clear fk f3
          have hA := ack_any _ B S T3
          cases hn : nextO S with
          | none =>
            have e1 : ackA S = 1023 := by unfold ackA; rw [hn]
            have e2 : ackS S = S := by unfold ackS; rw [hn]
            rw [e1, e2] at hA
            go_wp2_with fail
            refine hA.mono ?_
            rintro e w4 ⟨rfl, f4, t4⟩
            have F4 := F3.lone f4 hb0
            have l4 := l3.keep f4 (fun q hq hB => by have := hT.lt q hB; omega)
            clear hA F3 T3 f4 l3 e1 e2 hn
            go_wp2_with fail
            refine (all_any _ B S t4).mono ?_
            rintro e w5 ⟨v5, rfl, l5, f5⟩
            have F5 := F4.trans f5
            have m5 := l4.keep0 f5
            obtain ⟨a7, c7, rfl, _, _, h7, _⟩ := m5.open
            obtain ⟨a8, c8, rfl, _, _, h8, _⟩ := l5.open
            have HL := lists_any _ a7 a8 c7 c8 _ _ h7 h8 (Nat.le_trans (len_all hg) (by omega))
            rw [decide_eq_true rfl] at HL
            clear l4 l5 m5 h7 h8 F4 t4 f5
            go_wp2_with fail
            refine HL.mono ?_
            rintro e w6 ⟨rfl, f6⟩
            have F6 := F5.trans f6
            clear HL F5 f6
            go_wp2_with fail
            go_ret
            exact ⟨rfl, F6⟩
          | some q =>
            have e1 : ackA S = (q : Int) := by unfold ackA; rw [hn]
            rw [e1] at hA
            have hq64 := next_lt hn
            obtain ⟨p, l, hp, hac, _, _, hrun, _⟩ := next_some hn
            have HM : Hid ((∀ x, x ∈ allL S → isMine q x = true → x.p = p) ∧ (∃ (i : Nat) (x : Lr), (allL S)[i]? = some x ∧ isMine q x = true) ∧ (∀ x, x ∈ allL S → x.ac = true → p < x.p) ∧ 0 ≤ p) :=
              ⟨fun x hx hm => mine_is hg hp hx hm, mine_there hg hq64 hp hac, fun x hx ha => by have := active_more hg hx ha; omega, (hg.pe q p l hp).2.1⟩
            have hq1 : ((q : Int) == 1023) = false := by simp; omega
            have hq2 : (q == 1023) = false := by simp; omega
            have hL64 := len_all hg
            generalize ackS S = S' at *
            clear hn hp hac hrun e1 hg
            generalize allL S = L at *
            go_wp2_with fail
            refine hA.mono ?_
            rintro e w4 ⟨rfl, f4, t4⟩
            have F4 := F3.lone f4 hb0
            have l4 := l3.keep f4 (fun q hq hB => by have := hT.lt q hB; omega)
            clear hA F3 T3 f4 l3 hT t4
            obtain ⟨a4, c4, rfl, _, _, h4, _⟩ := l4.open
            have H4 : Hid (LrA w4 a4 L) := h4
            clear l4 h4
            go_wp2_with fail
            go_loopw [13, 14] (fun mi i wr => ∃ (m : Nat) (y : Int), m ≤ L.length ∧ i = .int .i64 m ∧ mi = .int .i64 y ∧ Fr none' w4 wr ∧ (y = p ∨ (y = -1 ∧ ∀ j x, j < m → L[j]? = some x → isMine q x = false))) (fun _ i _ => L.length - (intOf i).toNat)
            case atStart => exact ⟨0, -1, by omega, rfl, rfl, Fr.refl _ _, Or.inr ⟨rfl, fun j x hj => by omega⟩⟩
            case round =>
              obtain ⟨m, y, hm, rfl, rfl, fm, hy⟩ := hrel
              have HY : Hid (y = p ∨ (y = -1 ∧ ∀ j x, j < m → L[j]? = some x → isMine q x = false)) := hy
              clear hy
              by_cases hlt : m < L.length
              · obtain ⟨x, hx⟩ : ∃ x, L[m]? = some x := ⟨_, List.getElem?_eq_getElem hlt⟩
                obtain ⟨g, rfl, p0, p1, p2, p3, p4⟩ := H4.out m x hx
                have k0 := cell_keep fm p0 (fun h => h)
                have k1 := cell_keep fm p1 (fun h => h)
                have k3 := cell_keep fm p3 (fun h => h)
                have k4 := cell_keep fm p4 (fun h => h)
                have HX : Hid (L[m]? = some x) := hx
                have u5 : decide (m < L.length) = true := decide_eq_true hlt
                have i5 : 0 ≤ (m : Int) ∧ (m : Int) < (L.length : Int) := by omega
                have HLT : Hid (m < L.length) := hlt
                clear p0 p1 p2 p3 p4 hx hlt hm
                cases hmi : isMine q x with
                | true =>
                  have HP : Hid (x.p = p) := HM.out.1 x (List.mem_of_getElem? HX.out) hmi
                  unfold isMine at hmi
                  simp only [Bool.and_eq_true, Bool.not_eq_true'] at hmi
                  obtain ⟨z1, z2, z3⟩ := hmi
                  rw [z2] at k4
                  rw [z3] at k3
                  generalize x.p = xp at *
                  generalize x.id = xi at *
                  clear z2 z3
                  go_wp2_with fail
                  go_roundw
                  case rel => exact ⟨m + 1, xp, by have := HLT.out; omega, by go_num, rfl, fm, Or.inl HP.out⟩
                  case measure => have := HLT.out; simp [intOf]; omega
                | false =>
                  have HZ : Hid (y = p ∨ (y = -1 ∧ ∀ j x, j < m + 1 → L[j]? = some x → isMine q x = false)) := by
                    rcases HY.out with h | ⟨h, h'⟩
                    · exact Or.inl h
                    · refine Or.inr ⟨h, fun j z hj hz => ?_⟩
                      by_cases ej : j = m
                      · subst ej; rw [HX.out] at hz; cases hz; exact hmi
                      · exact h' j z (by omega) hz
                  have hcs : (x.id == (q : Int)) = false ∨ ((x.id == (q : Int)) = true ∧ x.ac = true) ∨ ((x.id == (q : Int)) = true ∧ x.ac = false ∧ x.pe = false) := by
                    unfold isMine at hmi
                    cases h1 : (x.id == (q : Int)) <;> cases h2 : x.ac <;> cases h3 : x.pe <;> simp [h1, h2, h3] at hmi ⊢
                  clear hmi
                  generalize x.p = xp at *
                  generalize x.id = xi at *
                  generalize x.ac = xa at *
                  generalize x.pe = xe at *
                  rcases hcs with z1 | ⟨z1, rfl⟩ | ⟨z1, rfl, rfl⟩
                  all_goals
                    go_wp2_with fail
                    go_roundw
                    case rel => exact ⟨m + 1, y, by have := HLT.out; omega, by go_num, rfl, fm, HZ.out⟩
                    case measure => have := HLT.out; simp [intOf]; omega
              · have HE : Hid (m = L.length) := by show _ = _; omega
                have u5 : decide (m < L.length) = false := decide_eq_false hlt
                have hyp : y = p := by
                  rcases HY.out with h | ⟨_, h'⟩
                  · exact h
                  · obtain ⟨i, x, hx, hmx⟩ := HM.out.2.1
                    have hi : i < L.length := by
                      rcases Nat.lt_or_ge i L.length with h | h
                      · exact h
                      · rw [List.getElem?_eq_none h] at hx; cases hx
                    rw [h' i x (by omega) hx] at hmx
                    cases hmx
                subst hyp
                clear hm hlt
                go_wp2_with fail
                obtain ⟨w5, rfl⟩ : ∃ w5, w5 = wr := ⟨wr, rfl⟩
                go_loopw [15] (fun i wr => ∃ (m : Nat), m ≤ L.length ∧ i = .int .i64 m ∧ Fr none' w4 wr) (fun i _ => L.length - (intOf i).toNat)
                case atStart => exact ⟨0, by omega, rfl, fm⟩
                case round =>
                  clear fm
                  obtain ⟨m2, hm2, rfl, fn⟩ := hrel
                  by_cases hlt : m2 < L.length
                  · obtain ⟨x, hx⟩ : ∃ x, L[m2]? = some x := ⟨_, List.getElem?_eq_getElem hlt⟩
                    obtain ⟨g, rfl, p0, p1, p2, p3, p4⟩ := H4.out m2 x hx
                    have k1 := cell_keep fn p1 (fun h => h)
                    have k4 := cell_keep fn p4 (fun h => h)
                    have u6 : decide (m2 < L.length) = true := decide_eq_true hlt
                    have i6 : 0 ≤ (m2 : Int) ∧ (m2 : Int) < (L.length : Int) := by omega
                    have HLT : Hid (m2 < L.length) := hlt
                    have hq := HM.out.2.2.1 x (List.mem_of_getElem? hx)
                    clear p0 p1 p2 p3 p4 hx hlt hm2
                    generalize x.p = xp at *
                    cases hxa : x.ac with
                    | true =>
                      rw [hxa] at k4
                      have u7 : decide (xp ≤ y) = false := decide_eq_false (by have := hq hxa; omega)
                      clear hq hxa
                      go_wp2_with fail
                      go_roundw
                      case rel => exact ⟨m2 + 1, by have := HLT.out; omega, by go_num, fn⟩
                      case measure => have := HLT.out; simp [intOf]; omega
                    | false =>
                      rw [hxa] at k4
                      clear hq hxa
                      go_wp2_with fail
                      go_roundw
                      case rel => exact ⟨m2 + 1, by have := HLT.out; omega, by go_num, fn⟩
                      case measure => have := HLT.out; simp [intOf]; omega
                  · have u6 : decide (m2 < L.length) = false := decide_eq_false hlt
                    have u7 : decide (0 ≤ y) = true := decide_eq_true HM.out.2.2.2
                    clear hlt hm2
                    go_wp2_with fail
                    go_ret
                    exact ⟨rfl, F4.trans fn⟩

theorem nests_any (lrs : Int) (a0 : Option Addr) (len cap : Nat) (w : World) (hl : len ≤ 9223372036854775807) (ha : Acts w a0 len) :
    Calls Try.prog 7 #[.int .i64 lrs, .slice a0 len cap] w fun e w' => e = .returned (.bool true) ∧ Below w.heap.size w w' :=
  (nests_row lrs a0 len cap w hl ha).mono fun _ _ ⟨he, hf⟩ => ⟨he, hf.below (Nat.le_refl _) (fun _ h => h.elim)⟩

end Go.Proofs.Ytlbflaebjicmaaa
