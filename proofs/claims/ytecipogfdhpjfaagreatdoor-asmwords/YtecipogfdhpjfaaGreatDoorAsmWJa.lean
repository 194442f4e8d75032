/-
  viceroyref06's word against the plain one. No statement is proved here.
-/
import Derived.Test.YtecipogfdhpjfaaGreatDoorAsmAwake
import Derived.Test.YtecipogfdhpjfaaGreatDoorAsmBytesOwn
import Derived.Test.YtecipogfdhpjfaaGreatDoorAsmTables
import Derived.Laws.Strings2
import Derived.Test.YtecipogfdhpjfaaGreatDoorAsmParse
/- AsmRefA -/
namespace Go.Proofs.YtecipogfdhpjfaaGreatDoor
open Go.RowKit

def namesV : Array Value := #[.string ⟨#[]⟩, .string ⟨#[109, 111, 118, 105]⟩, .string ⟨#[97, 100, 100]⟩, .string ⟨#[115, 117, 98]⟩, .string ⟨#[97, 110, 100]⟩, .string ⟨#[120, 111, 114]⟩, .string ⟨#[115, 104, 108]⟩, .string ⟨#[108, 100, 114]⟩, .string ⟨#[115, 116, 114]⟩, .string ⟨#[108, 100, 114, 98]⟩, .string ⟨#[115, 116, 114, 98]⟩, .string ⟨#[98, 101, 113]⟩, .string ⟨#[98, 110, 101]⟩, .string ⟨#[98, 108, 116]⟩, .string ⟨#[106, 109, 112]⟩, .string ⟨#[106, 97, 108]⟩, .string ⟨#[106, 114]⟩, .string ⟨#[104, 118, 99]⟩, .string ⟨#[115, 118, 99]⟩, .string ⟨#[109, 114, 115]⟩, .string ⟨#[109, 115, 114]⟩, .string ⟨#[119, 102, 105]⟩, .string ⟨#[105, 97, 114]⟩, .string ⟨#[101, 111, 105]⟩, .string ⟨#[116, 108, 98, 105]⟩, .string ⟨#[110, 111, 112]⟩]

set_option maxRecDepth 100000 in
theorem names_ref (w : World) : Calls Tryz.prog 49 #[] w fun e w' => e = .returned (.slice (some ⟨w.heap.size, 0, none⟩) 26 26) ∧ w' = w.alloc (.cells namesV 9) := by
  go_enter Tryz.func49, Tryz.ntmps49
  go_wp2_with fail
  go_ret
  exact ⟨rfl, rfl⟩

set_option maxRecDepth 100000 in
theorem digit_q (q : Int) (w : World) : Calls Tryz.prog 46 #[.int .u8 q] w fun e w' => e = .returned (.bool (decide (48 ≤ q) && decide (q ≤ 57))) ∧ w' = w := by
  cases g1 : decide (48 ≤ q) <;> cases g2 : decide (q ≤ 57)
  all_goals
    go_enter Tryz.func46, Tryz.ntmps46
    go_wp2_with fail
    go_ret
    exact ⟨rfl, rfl⟩

theorem digit_ref (c : UInt8) (w : World) : Calls Tryz.prog 46 #[.int .u8 (c.toNat : Int)] w fun e w' => e = .returned (.bool (isDig c)) ∧ w' = w := by
  have := digit_q (c.toNat : Int) w
  have e : (decide (48 ≤ ((c.toNat : Nat) : Int)) && decide (((c.toNat : Nat) : Int) ≤ 57)) = isDig c := by
    unfold isDig
    congr 1 <;> simp <;> omega
  rw [e] at this
  exact this

set_option maxRecDepth 100000 in
theorem wordly_q (q : Int) (w : World) : Calls Tryz.prog 26 #[.int .u8 q] w fun e w' => e = .returned (.bool ((decide (48 ≤ q) && decide (q ≤ 57)) || (decide (97 ≤ q) && decide (q ≤ 122)) || (q == 95))) ∧ w' = w := by
  have HD := digit_q q w
  cases g0 : (decide (48 ≤ q) && decide (q ≤ 57)) <;> cases g1 : decide (97 ≤ q) <;> cases g2 : decide (q ≤ 122) <;> cases g3 : (q == 95)
  all_goals
    rw [g0] at HD
    clear g0
    go_enter Tryz.func26, Tryz.ntmps26
    go_wp2_with (go_at_call 46; refine HD.mono ?_; rintro e w1 ⟨rfl, rfl⟩)
    go_ret
    exact ⟨rfl, rfl⟩

end Go.Proofs.YtecipogfdhpjfaaGreatDoor

/- AsmRefB -/
namespace Go.Proofs.YtecipogfdhpjfaaGreatDoor
open Go.RowKit

theorem conv_one (c : UInt8) (x : Int) (hx : ((c.toNat : Nat) : Int) = x) (w : World) : (convert 55 9 (.slice (some ⟨w.heap.size, 0, none⟩) 1 1)).run Tryz.prog (w.alloc (.cells #[.int .u8 x] 5)) = .ok (.string ⟨[c].toArray⟩) (w.alloc (.cells #[.int .u8 x] 5)) := by
  subst hx
  refine run_convert_bytes_back (P := Tryz.prog) _ 55 9 5 ⟨w.heap.size, 0, none⟩ 1 [c] Tryz.underlying55 Tryz.underlying5 Tryz.underlying9 fun j hj => ?_
  have hr := row_alloc w #[.int .u8 (c.toNat : Int)] 5
  obtain rfl : j = 0 := by simp at hj; omega
  rw [add_lit', hr.cell]
  simp

theorem dig_val (m : Nat) (h : m < 10) : (((UInt8.ofNat (48 + m)).toNat : Nat) : Int) = 48 + (m : Int) := by
  rw [UInt8.toNat_ofNat']
  omega

def shB : Nat → List UInt8
  | 1 => [97, 44, 105] | 2 => [97, 44, 98, 44, 99] | 3 => [97, 44, 98, 44, 105] | 4 => [105] | 5 => [98] | 6 => [98, 44, 105] | 7 => [97] | _ => []
theorem shape_sh (op : Int) (h : ¬ (7 ≤ op ∧ op ≤ 10)) : shapeB op = shB (kf op) := by
  unfold shapeB
  rw [if_neg h]
  exact kf_cases (P := fun k => (match k with | 1 => [97, 44, 105] | 2 => [97, 44, 98, 44, 99] | 3 => [97, 44, 98, 44, 105] | 4 => [105] | 5 => [98] | 6 => [98, 44, 105] | 7 => [97] | _ => ([] : List UInt8)) = shB k) op rfl rfl rfl rfl rfl rfl rfl rfl rfl

set_option maxRecDepth 100000 in
set_option maxHeartbeats 1000000 in
theorem shape_in (op : Int) (w : World) (h : 7 ≤ op ∧ op ≤ 10) : Calls Tryz.prog 29 #[.int .i64 op] w fun e w' => e = .returned (strV (shapeB op)) ∧ w' = w := by
  have hs : shapeB op = [97, 44, 91, 98, 43, 105, 93] := by unfold shapeB; rw [if_pos h]; rfl
  have g1 : decide (7 ≤ op) = true := decide_eq_true h.1
  have g2 : decide (op ≤ 10) = true := decide_eq_true h.2
  clear h
  go_enter Tryz.func29, Tryz.ntmps29
  go_wp2_with fail
  go_ret
  exact ⟨by rw [hs]; rfl, rfl⟩

set_option maxRecDepth 100000 in
set_option maxHeartbeats 2000000 in
theorem shape_k (op : Int) (k : Nat) (hk : k ≤ 8) (w : World) (hc : (decide (7 ≤ op) = true ∧ decide (op ≤ 10) = false) ∨ decide (7 ≤ op) = false) (HK : Calls Tryz.prog 50 #[.int .i64 op] w fun e w' => e = .returned (.string (fs k)) ∧ w = w') : Calls Tryz.prog 29 #[.int .i64 op] w fun e w' => e = .returned (strV (shB k)) ∧ w' = w := by
  have hk' : k = 0 ∨ k = 1 ∨ k = 2 ∨ k = 3 ∨ k = 4 ∨ k = 5 ∨ k = 6 ∨ k = 7 ∨ k = 8 := by omega
  rcases hc with ⟨g1, g2⟩ | g1 <;> rcases hk' with rfl | rfl | rfl | rfl | rfl | rfl | rfl | rfl | rfl
  all_goals
    simp only [fs] at HK
    go_enter Tryz.func29, Tryz.ntmps29
    go_wp2_with fail
    refine HK.mono ?_
    rintro e w1 ⟨rfl, rfl⟩
    go_wp2_with fail
    refine wp_loop_rounds 5 ?_
    repeat (rw [rounds_succ]; go_wp2_with fail)
    go_ret
    exact ⟨rfl, rfl⟩

theorem shape_ref (op : Int) (w : World) : Calls Tryz.prog 29 #[.int .i64 op] w fun e w' => e = .returned (strV (shapeB op)) ∧ w' = w := by
  by_cases h : 7 ≤ op ∧ op ≤ 10
  · exact shape_in op w h
  · rw [shape_sh op h]
    refine shape_k op (kf op) (kf_le op) w ?_ (rkind_any op w)
    by_cases h7 : 7 ≤ op
    · exact Or.inl ⟨decide_eq_true h7, decide_eq_false (by omega)⟩
    · exact Or.inr (decide_eq_false h7)

end Go.Proofs.YtecipogfdhpjfaaGreatDoor

/- AsmRefL -/
namespace Go.Proofs.YtecipogfdhpjfaaGreatDoor
open Go.RowKit

/-- An instruction, written so far. -/
def lineP (o a b c i : Int) (k : Nat) : List UInt8 := mnOf o ++ (if k = 0 then [] else 32 :: ((shapeB o).take k).flatMap (operB a b c i))
theorem lineP_step (o a b c i : Int) (k : Nat) (s : UInt8) (h : (shapeB o)[k]? = some s) : lineP o a b c i (k + 1) = (if k = 0 then lineP o a b c i 0 ++ [32] else lineP o a b c i k) ++ operB a b c i s := by
  unfold lineP
  rw [if_neg (by omega), List.take_add_one, h, List.flatMap_append]
  by_cases hk : k = 0
  · subst hk; simp
  · rw [if_neg hk, if_neg hk]; simp
theorem lineP_all (o a b c i : Int) : lineP o a b c i (shapeB o).length = insB o a b c i := by
  unfold lineP insB
  rw [List.take_of_length_le (Nat.le_refl _)]
  by_cases h : shapeB o = []
  · rw [h]; simp
  · rw [if_neg h, if_neg (fun e => h (List.length_eq_zero_iff.mp e))]
theorem oper_len6 (a b c i : Int) (ha : 0 ≤ a ∧ a ≤ 65535) (hb : 0 ≤ b ∧ b ≤ 65535) (hc : 0 ≤ c ∧ c ≤ 65535) (hi : 0 ≤ i ∧ i ≤ 65535) (s : UInt8) : (operB a b c i s).length ≤ 6 := by
  have h1 := dec_len a.toNat (by omega)
  have h2 := dec_len b.toNat (by omega)
  have h3 := dec_len c.toNat (by omega)
  have h4 := dec_len i.toNat (by omega)
  unfold operB regB
  repeat' split
  all_goals first | omega | (simp only [List.length_cons, List.length_nil]; omega)
theorem flat_len6 (f : UInt8 → List UInt8) (h : ∀ s, (f s).length ≤ 6) : ∀ l : List UInt8, (l.flatMap f).length ≤ 6 * l.length
  | [] => by simp
  | x :: l => by
    have := flat_len6 f h l
    have := h x
    simp only [List.flatMap_cons, List.length_append, List.length_cons]
    omega
theorem shape_set (o : Int) (s : UInt8) (h : s ∈ shapeB o) : s = 97 ∨ s = 98 ∨ s = 99 ∨ s = 105 ∨ s = 44 ∨ s = 43 ∨ s = 91 ∨ s = 93 := by
  by_cases ho : 7 ≤ o ∧ o ≤ 10
  · unfold shapeB at h
    rw [if_pos ho] at h
    simp at h
    rcases h with h | h | h | h | h | h | h <;> simp [h]
  · rw [shape_sh o ho] at h
    have key := kf_cases (P := fun k => (shB k).all (fun s => s == 97 || s == 98 || s == 99 || s == 105 || s == 44 || s == 43 || s == 91 || s == 93) = true) o (by decide) (by decide) (by decide) (by decide) (by decide) (by decide) (by decide) (by decide) (by decide)
    have := List.all_eq_true.mp key s h
    simpa [or_assoc] using this
theorem shape_len (o : Int) : (shapeB o).length ≤ 7 := by
  by_cases ho : 7 ≤ o ∧ o ≤ 10
  · unfold shapeB; rw [if_pos ho]; simp
  · rw [shape_sh o ho]
    exact kf_cases (P := fun k => (shB k).length ≤ 7) o (by decide) (by decide) (by decide) (by decide) (by decide) (by decide) (by decide) (by decide) (by decide)

theorem lineP_len (o a b c i : Int) (ha : 0 ≤ a ∧ a ≤ 65535) (hb : 0 ≤ b ∧ b ≤ 65535) (hc : 0 ≤ c ∧ c ≤ 65535) (hi : 0 ≤ i ∧ i ≤ 65535) (k : Nat) : (lineP o a b c i k).length ≤ 200 := by
  have h1 := flat_len6 (operB a b c i) (oper_len6 a b c i ha hb hc hi) ((shapeB o).take k)
  have h2 := shape_len o
  have h3 : ((shapeB o).take k).length ≤ 7 := by rw [List.length_take]; omega
  have h4 : (mnOf o).length ≤ 10 := by
    unfold mnOf
    split
    · simp
    · have key : ∀ j : Fin 26, (mnemo.getD j.val []).length ≤ 10 := by decide
      rename_i h
      exact key ⟨o.toNat - 1, by omega⟩
  unfold lineP
  rw [List.length_append]
  split
  · simp only [List.length_nil]; omega
  · simp only [List.length_cons]; omega

theorem sidx_run (s : ByteArray) (k : Nat) (c : UInt8) (hc : s.data.toList[k]? = some c) (q : Int) (hq : ((c.toNat : Nat) : Int) = q) (w : World) : (Instr.index 9 (.string s) (.int .i64 (k : Int))).run Tryz.prog w = .ok (.int .u8 q) w := by
  have h : k < s.size := by
    rcases Nat.lt_or_ge k s.size with h | h
    · exact h
    · rw [List.getElem?_eq_none (by rw [Array.length_toList]; exact h)] at hc; cases hc
  rw [run_index_string w 9 s .i64 (k : Int) Tryz.underlying9, dif_pos ⟨by omega, by omega⟩, ← hq]
  have h' : k < s.data.size := h
  rw [Array.getElem?_toList, Array.getElem?_eq_getElem h'] at hc
  have hc' : s.data[k] = c := Option.some.inj hc
  have : (s[((k : Int)).toNat]'(by simpa using h)) = c := by rw [← hc']; rfl
  rw [this]

theorem sslice_run (s : ByteArray) (k : Nat) (c : UInt8) (hc : s.data.toList[k]? = some c) (w : World) : (Instr.sliceAt 9 (.string s) (some (.int .i64 (k : Int))) (some (.int .i64 ((k : Int) + 1))) none).run Tryz.prog w = .ok (.string ⟨[c].toArray⟩) w := by
  have h : k < s.size := by
    rcases Nat.lt_or_ge k s.size with h | h
    · exact h
    · rw [List.getElem?_eq_none (by rw [Array.length_toList]; exact h)] at hc; cases hc
  rw [run_sliceAt_string w 9 _ _ _ _ Tryz.underlying9, run_slice_string w 9 s .i64 .i64 (k : Int) ((k : Int) + 1) Tryz.underlying9 (by omega) (by omega) (by omega)]
  obtain ⟨⟨l⟩⟩ := s
  rw [show ((k : Int) + 1).toNat = k + 1 by omega, show ((k : Int)).toNat = k by omega, ByteArray.extract_mk]
  have hc' : l[k]? = some c := hc
  have hk : k < l.length := h
  rw [List.drop_eq_getElem_cons hk, show k + 1 - k = 1 by omega, List.take_succ_cons, List.take_zero]
  rw [List.getElem?_eq_getElem hk] at hc'
  rw [Option.some.inj hc']

end Go.Proofs.YtecipogfdhpjfaaGreatDoor

/- AsmRefC -/
namespace Go.Proofs.YtecipogfdhpjfaaGreatDoor
open Go.RowKit

theorem op_hit : ∀ i : Fin 25, opOf (mnemo.getD i.val []) = (i.val : Int) + 1 := by decide +kernel
theorem op_miss (l : List UInt8) (h : ∀ j, j < 25 → mnemo.getD j [] ≠ l) : opOf l = if l = wordB then -1 else 0 := by
  unfold opOf
  have : mnemo.findIdx? (fun m => m == l) = none := by
    rw [List.findIdx?_eq_none_iff]
    intro m hm
    obtain ⟨j, hj, rfl⟩ := List.getElem_of_mem hm
    have hj' : j < 25 := hj
    have := h j hj'
    rw [List.getD_eq_getElem?_getD, List.getElem?_eq_getElem hj] at this
    simpa using this
  rw [this]
theorem names_at (j : Nat) (h : j < 25) : namesV[j + 1]? = some (.string ⟨(mnemo.getD j []).toArray⟩) := by
  have hh : j = 0 ∨ j = 1 ∨ j = 2 ∨ j = 3 ∨ j = 4 ∨ j = 5 ∨ j = 6 ∨ j = 7 ∨ j = 8 ∨ j = 9 ∨ j = 10 ∨ j = 11 ∨ j = 12 ∨ j = 13 ∨ j = 14 ∨ j = 15 ∨ j = 16 ∨ j = 17 ∨ j = 18 ∨ j = 19 ∨ j = 20 ∨ j = 21 ∨ j = 22 ∨ j = 23 ∨ j = 24 := by omega
  rcases hh with rfl | rfl | rfl | rfl | rfl | rfl | rfl | rfl | rfl | rfl | rfl | rfl | rfl | rfl | rfl | rfl | rfl | rfl | rfl | rfl | rfl | rfl | rfl | rfl | rfl <;> rfl
theorem bytes_eq (s : ByteArray) (l : List UInt8) : (s = ⟨l.toArray⟩) ↔ s.data.toList = l := by
  constructor
  · rintro rfl; rfl
  · intro h; rw [← h]

theorem str_ne {t s : ByteArray} (h : t ≠ s) : (t.toList == s.toList) = false := by
  rw [beq_eq_false_iff_ne, ByteArray.toList_eq, ByteArray.toList_eq]
  intro e
  obtain ⟨⟨l⟩⟩ := t
  obtain ⟨⟨m⟩⟩ := s
  have e' : l = m := e
  exact h (by rw [e'])


set_option maxRecDepth 100000 in
set_option maxHeartbeats 2000000 in
theorem operation_ref (s : ByteArray) (w : World) : Calls Tryz.prog 28 #[.string s] w fun e w' => e = .returned (.int .i64 (opOf s.data.toList)) ∧ Fr none' w w' := by
  have HN := names_ref w
  have fa := (Fr.refl none' w).alloc (.cells namesV 9)
  have hc : ∀ j x, namesV[j]? = some x → (w.alloc (.cells namesV 9)).cell? ⟨w.heap.size, j, none⟩ = some x := fun j x hx => by
    have hr := row_alloc w namesV 9
    rw [hr.cell]; exact hx
  have HC := hid' hc
  clear hc
  go_enter Tryz.func28, Tryz.ntmps28
  go_wp2_with fail
  refine HN.mono ?_
  rintro e w1 ⟨rfl, rfl⟩
  clear HN
  go_wp2_with fail
  go_loopw [4] (fun i wr => ∃ k : Nat, k ≤ 25 ∧ i = .int .i64 ((k : Int) + 1) ∧ wr = w.alloc (.cells namesV 9) ∧ Hid (∀ j, j < k → mnemo.getD j [] ≠ s.data.toList)) (fun i _ => 26 - (intOf i).toNat)
  case atStart => exact ⟨0, by omega, rfl, rfl, hid' (fun j hj => by omega)⟩
  case round =>
    obtain ⟨k, hk, rfl, rfl, HJ⟩ := hrel
    by_cases hlt : k < 25
    · have u1 : decide ((k : Int) + 1 < 26) = true := decide_eq_true (by omega)
      have hx := HC.out (k + 1) _ (names_at k hlt)
      obtain ⟨t, ht⟩ : ∃ t : ByteArray, t = ⟨(mnemo.getD k []).toArray⟩ := ⟨_, rfl⟩
      rw [← ht] at hx
      have htn : ((k : Int) + 1).toNat = k + 1 := by omega
      by_cases he : t = s
      · have v1 : (t.toList == s.toList) = true := by rw [he]; simp
        have HO : Hid (opOf s.data.toList = (k : Int) + 1) := by
          have h1 := op_hit ⟨k, hlt⟩
          rw [(bytes_eq s _).1 (he ▸ ht)]
          exact h1
        clear he ht
        go_wp2_with fail
        go_ret
        exact ⟨by rw [HO.out]; rfl, fa⟩
      · have v1 : (t.toList == s.toList) = false := str_ne he
        have HJ' : Hid (∀ j, j < k + 1 → mnemo.getD j [] ≠ s.data.toList) := hid' fun j hj => by
          rcases Nat.lt_or_ge j k with h | h
          · exact HJ.out j h
          · obtain rfl : j = k := by omega
            intro h2
            exact he (ht.trans ((bytes_eq s _).2 h2.symm).symm)
        clear he ht HJ
        go_wp2_with fail
        go_roundw
        case rel => exact ⟨k + 1, by omega, by go_num, trivial, HJ'⟩
        case measure => simp [intOf]; omega
    · obtain rfl : k = 25 := by omega
      have hm := op_miss s.data.toList HJ.out
      by_cases hw : s = ⟨#[119, 111, 114, 100]⟩
      · have v1 : (s.toList == [119, 111, 114, 100]) = true := by rw [hw]; decide +kernel
        have HO : Hid (opOf s.data.toList = -1) := by
          rw [if_pos ((bytes_eq s wordB).1 hw)] at hm; exact hm
        clear hw hm
        go_wp2_with fail
        go_ret
        exact ⟨by rw [HO.out]; rfl, fa⟩
      · have v1 : (s.toList == [119, 111, 114, 100]) = false := by
          have := str_ne hw
          rwa [show (⟨#[119, 111, 114, 100]⟩ : ByteArray).toList = [119, 111, 114, 100] by decide +kernel] at this
        have HO : Hid (opOf s.data.toList = 0) := by
          rw [if_neg (fun h => hw ((bytes_eq s wordB).2 h))] at hm; exact hm
        clear hw hm
        go_wp2_with fail
        go_ret
        exact ⟨by rw [HO.out]; rfl, fa⟩

end Go.Proofs.YtecipogfdhpjfaaGreatDoor

/- AsmRefD -/
namespace Go.Proofs.YtecipogfdhpjfaaGreatDoor
open Go.RowKit

/-- A number that may be none, as it is told. -/
def optV (x : Option Nat) : Value := match x with | some n => .tuple #[.int .i64 (n : Int), .bool true] | none => .tuple #[.int .i64 0, .bool false]

theorem pow16 (k : Nat) (h : k ≤ 8) : 16 ^ k ≤ 4294967296 := Nat.le_trans (Nat.pow_le_pow_right (by omega) h) (by decide)

set_option maxHeartbeats 2000000 in
theorem hex_ref (s : ByteArray) (w : World) : Calls Tryz.prog 47 #[.string s] w fun e w' => e = .returned (optV (hexT s.data.toList)) ∧ w' = w := by
  obtain ⟨n, hn⟩ : ∃ n, s.size = n := ⟨_, rfl⟩
  have hsl : s.data.toList.length = n := by rw [Array.length_toList]; exact hn
  by_cases h0 : s.data.toList = []
  · have e0 : hexT s.data.toList = none := by unfold hexT; rw [if_pos (Or.inl h0)]
    have v1 : (s.toList == ([] : List UInt8)) = true := by rw [ByteArray.toList_eq, h0]; rfl
    rw [e0]
    clear h0 e0
    go_enter Tryz.func47, Tryz.ntmps47
    go_wp2_with fail
    refine bodyPost_ret (results_tmp2 rfl _ _ _) rfl ?_
    exact ⟨rfl, rfl⟩
  have v1 : (s.toList == ([] : List UInt8)) = false := by rw [ByteArray.toList_eq]; simpa using h0
  by_cases h8 : 8 < n
  · have e0 : hexT s.data.toList = none := by unfold hexT; rw [if_pos (Or.inr (by omega))]
    have g1 : decide ((8 : Int) < (n : Int)) = true := decide_eq_true (by omega)
    have g2 : decide (8 < n) = true := decide_eq_true h8
    rw [e0]
    clear h0 e0 h8
    go_enter Tryz.func47, Tryz.ntmps47
    go_wp2_with fail
    refine bodyPost_ret (results_tmp2 rfl _ _ _) rfl ?_
    exact ⟨rfl, rfl⟩
  have e0 : hexT s.data.toList = hexN s.data.toList 0 := by unfold hexT; rw [if_neg (by rintro (h | h); exact h0 h; omega)]
  have g1 : decide ((8 : Int) < (n : Int)) = false := decide_eq_false (by omega)
  have g2 : decide (8 < n) = false := decide_eq_false h8
  rw [e0]
  have HSL := hid' hsl
  clear h0 e0 hsl
  go_enter Tryz.func47, Tryz.ntmps47
  go_wp2_with fail
  go_loopw [4, 5] (fun v i wr => ∃ k m : Nat, k ≤ n ∧ i = .int .i64 (k : Int) ∧ v = .int .i64 (m : Int) ∧ m < 16 ^ k ∧ wr = w ∧ Hid (hexN (s.data.toList.drop k) m = hexN s.data.toList 0)) (fun _ i _ => n - (intOf i).toNat)
  case atStart => exact ⟨0, 0, by omega, rfl, rfl, by decide, rfl, hid' (by simp)⟩
  case round =>
    obtain ⟨k, m, hk, rfl, rfl, hm, rfl, HX⟩ := hrel
    have p1 := pow16 k (by omega)
    by_cases hlt : k < n
    · have p2 := pow16 (k + 1) (by omega)
      rw [Nat.pow_succ] at p2
      have u1 : decide ((k : Int) < (n : Int)) = true := decide_eq_true (by omega)
      have u2 : decide (k < n) = true := decide_eq_true hlt
      obtain ⟨c, hc⟩ : ∃ c, s.data.toList[k]? = some c := ⟨_, List.getElem?_eq_getElem (by rw [HSL.out]; exact hlt)⟩
      have hd : s.data.toList.drop k = c :: s.data.toList.drop (k + 1) := by
        have hk' : k < s.data.toList.length := by rw [HSL.out]; exact hlt
        rw [List.drop_eq_getElem_cons hk']
        rw [List.getElem?_eq_getElem hk'] at hc
        rw [Option.some.inj hc]
      have HX2 : Hid (hexN s.data.toList 0 = match hexD c with | some d => hexN (s.data.toList.drop (k + 1)) (16 * m + d) | none => none) := by
        show _ = _
        rw [← HX.out, hd]
        rfl
      obtain ⟨q, hq⟩ : ∃ q, c.toNat = q := ⟨_, rfl⟩
      have hi : ∀ w, (Instr.index 9 (.string s) (.int .i64 (k : Int))).run Tryz.prog w = .ok (.int .u8 (q : Int)) w := fun w => sidx_run s k c hc (q : Int) (by rw [hq]) w
      have HD : Hid (hexD c = if decide (48 ≤ q) && decide (q ≤ 57) then some (q - 48) else if decide (97 ≤ q) && decide (q ≤ 102) then some (q - 87) else none) := by
        show _ = _
        unfold hexD isDig
        rw [hq]
      have hq8 : q < 256 := by rw [← hq]; exact c.toNat_lt
      clear hc hd HX hq
      by_cases h1 : 48 ≤ q ∧ q ≤ 57
      · have a1 : decide ((48 : Int) ≤ (q : Int)) = true := decide_eq_true (by omega)
        have a2 : decide (48 ≤ q) = true := decide_eq_true h1.1
        have a3 : decide ((q : Int) ≤ 57) = true := decide_eq_true (by omega)
        have a4 : decide (q ≤ 57) = true := decide_eq_true h1.2
        have HY : Hid (hexN (s.data.toList.drop (k + 1)) (16 * m + (q - 48)) = hexN s.data.toList 0) := by
          show _ = _
          rw [HX2.out, HD.out, a2, a4]
          rfl
        clear HX2 HD
        go_wp2_with fail
        go_roundw
        case rel => exact ⟨k + 1, 16 * m + (q - 48), by omega, by go_num, by go_num, by rw [Nat.pow_succ]; omega, trivial, HY⟩
        case measure => simp [intOf]; omega
      · by_cases h2 : 97 ≤ q ∧ q ≤ 102
        · have a1 : decide ((48 : Int) ≤ (q : Int)) = true := decide_eq_true (by omega)
          have a2 : decide (48 ≤ q) = true := decide_eq_true (by omega)
          have a3 : decide ((q : Int) ≤ 57) = false := decide_eq_false (by omega)
          have a4 : decide (q ≤ 57) = false := decide_eq_false (by omega)
          have b1 : decide ((97 : Int) ≤ (q : Int)) = true := decide_eq_true (by omega)
          have b2 : decide (97 ≤ q) = true := decide_eq_true (by omega)
          have b3 : decide ((q : Int) ≤ 102) = true := decide_eq_true (by omega)
          have b4 : decide (q ≤ 102) = true := decide_eq_true (by omega)
          have HY : Hid (hexN (s.data.toList.drop (k + 1)) (16 * m + (q - 87)) = hexN s.data.toList 0) := by
            show _ = _
            rw [HX2.out, HD.out, a2, a4, b2, b4]
            rfl
          clear HX2 HD h1
          go_wp2_with fail
          go_roundw
          case rel => exact ⟨k + 1, 16 * m + (q - 87), by omega, by go_num, by go_num, by rw [Nat.pow_succ]; omega, trivial, HY⟩
          case measure => simp [intOf]; omega
        · have HZ : Hid (hexN s.data.toList 0 = none) := by
            show _ = _
            rw [HX2.out, HD.out, if_neg (by simp; omega), if_neg (by simp; omega)]
          clear HX2 HD
          by_cases z1 : 48 ≤ q
          · have a1 : decide ((48 : Int) ≤ (q : Int)) = true := decide_eq_true (by omega)
            have a2 : decide (48 ≤ q) = true := decide_eq_true z1
            have a3 : decide ((q : Int) ≤ 57) = false := decide_eq_false (by omega)
            have a4 : decide (q ≤ 57) = false := decide_eq_false (by omega)
            by_cases z2 : 97 ≤ q
            · have b1 : decide ((97 : Int) ≤ (q : Int)) = true := decide_eq_true (by omega)
              have b2 : decide (97 ≤ q) = true := decide_eq_true z2
              have b3 : decide ((q : Int) ≤ 102) = false := decide_eq_false (by omega)
              have b4 : decide (q ≤ 102) = false := decide_eq_false (by omega)
              clear h1 h2
              go_wp2_with fail
              refine bodyPost_ret (results_tmp2 rfl _ _ _) rfl ?_
              exact ⟨by rw [HZ.out]; rfl, rfl⟩
            · have b1 : decide ((97 : Int) ≤ (q : Int)) = false := decide_eq_false (by omega)
              have b2 : decide (97 ≤ q) = false := decide_eq_false z2
              clear h1 h2
              go_wp2_with fail
              refine bodyPost_ret (results_tmp2 rfl _ _ _) rfl ?_
              exact ⟨by rw [HZ.out]; rfl, rfl⟩
          · have a1 : decide ((48 : Int) ≤ (q : Int)) = false := decide_eq_false (by omega)
            have a2 : decide (48 ≤ q) = false := decide_eq_false z1
            have b1 : decide ((97 : Int) ≤ (q : Int)) = false := decide_eq_false (by omega)
            have b2 : decide (97 ≤ q) = false := decide_eq_false (by omega)
            clear h1 h2
            go_wp2_with fail
            refine bodyPost_ret (results_tmp2 rfl _ _ _) rfl ?_
            exact ⟨by rw [HZ.out]; rfl, rfl⟩
    · obtain rfl : k = n := by omega
      have u1 : decide ((k : Int) < (k : Int)) = false := decide_eq_false (by omega)
      have u2 : decide (k < k) = false := decide_eq_false (by omega)
      have HZ : Hid (hexN s.data.toList 0 = some m) := by
        show _ = _
        rw [← HX.out, List.drop_of_length_le (by rw [HSL.out]; omega)]
        rfl
      go_wp2_with fail
      refine bodyPost_ret (results_tmp2 rfl _ _ _) rfl ?_
      exact ⟨by rw [HZ.out]; rfl, rfl⟩

def decF (n : Nat) (c : UInt8) : Nat := min (10 * n + (c.toNat - 48)) 1099511627776

set_option maxHeartbeats 2000000 in
theorem plain_ref (s : ByteArray) (hb : s.size ≤ 1000000) (w : World) : Calls Tryz.prog 48 #[.string s] w fun e w' => e = .returned (optV (plainT s.data.toList)) ∧ w' = w := by
  obtain ⟨n, hn⟩ : ∃ n, s.size = n := ⟨_, rfl⟩
  rw [hn] at hb
  have hsl : s.data.toList.length = n := by rw [Array.length_toList]; exact hn
  by_cases h0 : s.data.toList = []
  · have e0 : plainT s.data.toList = none := by unfold plainT; rw [if_pos (Or.inl h0)]
    have v1 : (s.toList == ([] : List UInt8)) = true := by rw [ByteArray.toList_eq, h0]; rfl
    rw [e0]
    clear h0 e0
    go_enter Tryz.func48, Tryz.ntmps48
    go_wp2_with fail
    refine bodyPost_ret (results_tmp2 rfl _ _ _) rfl ?_
    exact ⟨rfl, rfl⟩
  have v1 : (s.toList == ([] : List UInt8)) = false := by rw [ByteArray.toList_eq]; simpa using h0
  have hn0 : 0 < n := by
    rcases Nat.eq_zero_or_pos n with h | h
    · exact absurd (List.length_eq_zero_iff.1 (hsl.trans h)) h0
    · exact h
  obtain ⟨c0, hc0⟩ : ∃ c, s.data.toList[0]? = some c := ⟨_, List.getElem?_eq_getElem (by rw [hsl]; exact hn0)⟩
  obtain ⟨q0, hq0⟩ : ∃ q, c0.toNat = q := ⟨_, rfl⟩
  have hi0 : ∀ w, (Instr.index 9 (.string s) (.int .i64 0)).run Tryz.prog w = .ok (.int .u8 (q0 : Int)) w := fun w => sidx_run s 0 c0 hc0 (q0 : Int) (by rw [hq0]) w
  have hh : s.data.toList.head? = some c0 := by rw [List.head?_eq_getElem?]; exact hc0
  by_cases hz : 1 < n ∧ q0 = 48
  · have e0 : plainT s.data.toList = none := by
      unfold plainT
      rw [if_pos (Or.inr ⟨by omega, by rw [hh, show c0 = 48 from UInt8.toNat_inj.1 (by rw [hq0, hz.2]; rfl)]⟩)]
    have g1 : decide ((1 : Int) < (n : Int)) = true := decide_eq_true (by omega)
    have g2 : decide (1 < n) = true := decide_eq_true hz.1
    obtain ⟨_, rfl⟩ := hz
    rw [e0]
    clear h0 e0 hq0 hc0 hh
    go_enter Tryz.func48, Tryz.ntmps48
    go_wp2_with fail
    refine bodyPost_ret (results_tmp2 rfl _ _ _) rfl ?_
    exact ⟨rfl, rfl⟩
  have e0 : plainT s.data.toList = if s.data.toList.all isDig then some (s.data.toList.foldl decF 0) else none := by
    unfold plainT
    rw [if_neg]
    · rfl
    · rintro (h | ⟨h, h'⟩)
      · exact h0 h
      · rw [hh] at h'
        cases h'
        exact hz ⟨by omega, by rw [← hq0]; rfl⟩
  rw [e0]
  obtain ⟨R, hR⟩ : ∃ R, (if s.data.toList.all isDig then some (s.data.toList.foldl decF 0) else none) = R := ⟨_, rfl⟩
  rw [hR]
  have HR := hid' hR
  have HSL := hid' hsl
  have HG : Hid (¬ (1 < n ∧ q0 = 48)) := hz
  clear h0 e0 hsl hq0 hc0 hh hz hR
  go_enter Tryz.func48, Tryz.ntmps48
  by_cases hz1 : 1 < n
  · have g1 : decide ((1 : Int) < (n : Int)) = true := decide_eq_true (by omega)
    have g2 : decide (1 < n) = true := decide_eq_true hz1
    have g3 : ((q0 : Int) == 48) = false := by have := HG.out; simp; omega
    have g4 : (q0 == 48) = false := by have := HG.out; simp; omega
    go_wp2_with fail
    go_loopw [4, 5] (fun v i wr => ∃ k m : Nat, k ≤ n ∧ i = .int .i64 (k : Int) ∧ v = .int .i64 (m : Int) ∧ m ≤ 1099511627776 ∧ wr = w ∧ Hid ((s.data.toList.drop k).all isDig = s.data.toList.all isDig ∧ (s.data.toList.drop k).foldl decF m = s.data.toList.foldl decF 0)) (fun _ i _ => n - (intOf i).toNat)
    case atStart => exact ⟨0, 0, by omega, rfl, rfl, by omega, rfl, hid' (by simp)⟩
    case round =>
      obtain ⟨k, m, hk, rfl, rfl, hm, rfl, HX⟩ := hrel
      by_cases hlt : k < n
      · have u1 : decide ((k : Int) < (n : Int)) = true := decide_eq_true (by omega)
        have u2 : decide (k < n) = true := decide_eq_true hlt
        obtain ⟨c, hc⟩ : ∃ c, s.data.toList[k]? = some c := ⟨_, List.getElem?_eq_getElem (by rw [HSL.out]; exact hlt)⟩
        have hd : s.data.toList.drop k = c :: s.data.toList.drop (k + 1) := by
          have hk' : k < s.data.toList.length := by rw [HSL.out]; exact hlt
          rw [List.drop_eq_getElem_cons hk']
          rw [List.getElem?_eq_getElem hk'] at hc
          rw [Option.some.inj hc]
        have HX2 : Hid ((isDig c && (s.data.toList.drop (k + 1)).all isDig) = s.data.toList.all isDig ∧ (s.data.toList.drop (k + 1)).foldl decF (decF m c) = s.data.toList.foldl decF 0) := by
          have h := HX.out
          rw [hd] at h
          exact h
        have HDig := fun w => digit_ref c w
        obtain ⟨q, hq⟩ : ∃ q, c.toNat = q := ⟨_, rfl⟩
        have hi : ∀ w, (Instr.index 9 (.string s) (.int .i64 (k : Int))).run Tryz.prog w = .ok (.int .u8 (q : Int)) w := fun w => sidx_run s k c hc (q : Int) (by rw [hq]) w
        have hq8 : q < 256 := by rw [← hq]; exact c.toNat_lt
        have HQ : Hid (isDig c = (decide (48 ≤ q) && decide (q ≤ 57)) ∧ decF m c = min (10 * m + (q - 48)) 1099511627776) := by
          show _ ∧ _
          unfold isDig decF
          rw [hq]
          exact ⟨rfl, rfl⟩
        rw [hq] at HDig
        clear hc hd HX hq
        by_cases h1 : 48 ≤ q ∧ q ≤ 57
        · have hdg : isDig c = true := by rw [HQ.out.1]; simp [h1]
          rw [hdg] at HDig
          have HY : Hid ((s.data.toList.drop (k + 1)).all isDig = s.data.toList.all isDig ∧ (s.data.toList.drop (k + 1)).foldl decF (min (10 * m + (q - 48)) 1099511627776) = s.data.toList.foldl decF 0) := by
            have h := HX2.out
            rw [hdg, HQ.out.2] at h
            exact h
          clear HX2 HQ hdg
          go_wp2_with fail
          refine (HDig _).mono ?_
          rintro e w1 ⟨rfl, rfl⟩
          clear HDig
          go_wp2_with fail
          go_roundw
          case rel => exact ⟨k + 1, min (10 * m + (q - 48)) 1099511627776, by omega, by go_num, by go_num, by omega, trivial, HY⟩
          case measure => simp [intOf]; omega
        · have hdg : isDig c = false := by rw [HQ.out.1]; simp; omega
          rw [hdg] at HDig
          have HZ : Hid (s.data.toList.all isDig = false) := by
            have h := HX2.out.1
            rw [hdg] at h
            exact h.symm
          clear HX2 HQ hdg h1
          go_wp2_with fail
          refine (HDig _).mono ?_
          rintro e w1 ⟨rfl, rfl⟩
          clear HDig
          go_wp2_with fail
          refine bodyPost_ret (results_tmp2 rfl _ _ _) rfl ?_
          exact ⟨by rw [← HR.out, HZ.out]; rfl, rfl⟩
      · obtain rfl : k = n := by omega
        have u1 : decide ((k : Int) < (k : Int)) = false := decide_eq_false (by omega)
        have u2 : decide (k < k) = false := decide_eq_false (by omega)
        have HZ : Hid (s.data.toList.all isDig = true ∧ s.data.toList.foldl decF 0 = m) := by
          have h := HX.out
          rw [List.drop_of_length_le (by rw [HSL.out]; omega)] at h
          exact ⟨h.1.symm, h.2.symm⟩
        go_wp2_with fail
        refine bodyPost_ret (results_tmp2 rfl _ _ _) rfl ?_
        exact ⟨by rw [← HR.out, HZ.out.1, HZ.out.2]; rfl, rfl⟩
  · have g1 : decide ((1 : Int) < (n : Int)) = false := decide_eq_false (by omega)
    have g2 : decide (1 < n) = false := decide_eq_false hz1
    go_wp2_with fail
    go_loopw [4, 5] (fun v i wr => ∃ k m : Nat, k ≤ n ∧ i = .int .i64 (k : Int) ∧ v = .int .i64 (m : Int) ∧ m ≤ 1099511627776 ∧ wr = w ∧ Hid ((s.data.toList.drop k).all isDig = s.data.toList.all isDig ∧ (s.data.toList.drop k).foldl decF m = s.data.toList.foldl decF 0)) (fun _ i _ => n - (intOf i).toNat)
    case atStart => exact ⟨0, 0, by omega, rfl, rfl, by omega, rfl, hid' (by simp)⟩
    case round =>
      obtain ⟨k, m, hk, rfl, rfl, hm, rfl, HX⟩ := hrel
      by_cases hlt : k < n
      · have u1 : decide ((k : Int) < (n : Int)) = true := decide_eq_true (by omega)
        have u2 : decide (k < n) = true := decide_eq_true hlt
        obtain ⟨c, hc⟩ : ∃ c, s.data.toList[k]? = some c := ⟨_, List.getElem?_eq_getElem (by rw [HSL.out]; exact hlt)⟩
        have hd : s.data.toList.drop k = c :: s.data.toList.drop (k + 1) := by
          have hk' : k < s.data.toList.length := by rw [HSL.out]; exact hlt
          rw [List.drop_eq_getElem_cons hk']
          rw [List.getElem?_eq_getElem hk'] at hc
          rw [Option.some.inj hc]
        have HX2 : Hid ((isDig c && (s.data.toList.drop (k + 1)).all isDig) = s.data.toList.all isDig ∧ (s.data.toList.drop (k + 1)).foldl decF (decF m c) = s.data.toList.foldl decF 0) := by
          have h := HX.out
          rw [hd] at h
          exact h
        have HDig := fun w => digit_ref c w
        obtain ⟨q, hq⟩ : ∃ q, c.toNat = q := ⟨_, rfl⟩
        have hi : ∀ w, (Instr.index 9 (.string s) (.int .i64 (k : Int))).run Tryz.prog w = .ok (.int .u8 (q : Int)) w := fun w => sidx_run s k c hc (q : Int) (by rw [hq]) w
        have hq8 : q < 256 := by rw [← hq]; exact c.toNat_lt
        have HQ : Hid (isDig c = (decide (48 ≤ q) && decide (q ≤ 57)) ∧ decF m c = min (10 * m + (q - 48)) 1099511627776) := by
          show _ ∧ _
          unfold isDig decF
          rw [hq]
          exact ⟨rfl, rfl⟩
        rw [hq] at HDig
        clear hc hd HX hq
        by_cases h1 : 48 ≤ q ∧ q ≤ 57
        · have hdg : isDig c = true := by rw [HQ.out.1]; simp [h1]
          rw [hdg] at HDig
          have HY : Hid ((s.data.toList.drop (k + 1)).all isDig = s.data.toList.all isDig ∧ (s.data.toList.drop (k + 1)).foldl decF (min (10 * m + (q - 48)) 1099511627776) = s.data.toList.foldl decF 0) := by
            have h := HX2.out
            rw [hdg, HQ.out.2] at h
            exact h
          clear HX2 HQ hdg
          go_wp2_with fail
          refine (HDig _).mono ?_
          rintro e w1 ⟨rfl, rfl⟩
          clear HDig
          go_wp2_with fail
          go_roundw
          case rel => exact ⟨k + 1, min (10 * m + (q - 48)) 1099511627776, by omega, by go_num, by go_num, by omega, trivial, HY⟩
          case measure => simp [intOf]; omega
        · have hdg : isDig c = false := by rw [HQ.out.1]; simp; omega
          rw [hdg] at HDig
          have HZ : Hid (s.data.toList.all isDig = false) := by
            have h := HX2.out.1
            rw [hdg] at h
            exact h.symm
          clear HX2 HQ hdg h1
          go_wp2_with fail
          refine (HDig _).mono ?_
          rintro e w1 ⟨rfl, rfl⟩
          clear HDig
          go_wp2_with fail
          refine bodyPost_ret (results_tmp2 rfl _ _ _) rfl ?_
          exact ⟨by rw [← HR.out, HZ.out]; rfl, rfl⟩
      · obtain rfl : k = n := by omega
        have u1 : decide ((k : Int) < (k : Int)) = false := decide_eq_false (by omega)
        have u2 : decide (k < k) = false := decide_eq_false (by omega)
        have HZ : Hid (s.data.toList.all isDig = true ∧ s.data.toList.foldl decF 0 = m) := by
          have h := HX.out
          rw [List.drop_of_length_le (by rw [HSL.out]; omega)] at h
          exact ⟨h.1.symm, h.2.symm⟩
        go_wp2_with fail
        refine bodyPost_ret (results_tmp2 rfl _ _ _) rfl ?_
        exact ⟨by rw [← HR.out, HZ.out.1, HZ.out.2]; rfl, rfl⟩

end Go.Proofs.YtecipogfdhpjfaaGreatDoor

/- AsmRefE -/
namespace Go.Proofs.YtecipogfdhpjfaaGreatDoor
open Go.RowKit

/-- A token, as viceroyref06 has it. -/
def tokR : Tok → Value
  | .sg c => .agg #[.int .i64 1, .string ⟨[c].toArray⟩, .int .i64 0]
  | .num n => .agg #[.int .i64 2, .string ⟨#[]⟩, .int .i64 (n : Int)]
  | .reg n => .agg #[.int .i64 3, .string ⟨#[]⟩, .int .i64 (n : Int)]
  | .nm s => .agg #[.int .i64 4, .string ⟨s.toArray⟩, .int .i64 0]

/-- A token that may be none, as it is told. -/
def TokV (o : Option Tok) (e : Ending) : Prop := ∃ (k : Int) (t : ByteArray) (n : Int), e = .returned (.tuple #[.agg #[.int .i64 k, .string t, .int .i64 n], .bool o.isSome]) ∧ ∀ x, o = some x → tokR x = .agg #[.int .i64 k, .string t, .int .i64 n]

theorem size_tok6 : (Tryz.prog.info? 75).map (·.size) = some 3 := by kernel_rfl
theorem ret_tok6 {fn : Func} {p u : Tmp} {tmps : Array Value} {g : Nat} {cs : Array Value} {w : World} (h : fn.results = #[.cell p 75, .tmp u]) (hp : tmps.getD p undef = .pointer (some ⟨g, 0, none⟩)) (hr : Row w g cs 75) (hs : cs.size = 3) :
    (results fn tmps).run Tryz.prog w = .ok (.tuple #[.agg cs, tmps.getD u undef]) w := by
  rw [results_cell_tmp h, hp]
  simp only [asAddr, Sem.run_pure, Result.andThen]
  rw [run_loadVar_row w g _ 75 cs (0, 0) _ hr Tryz.underlying75 rfl (by rw [hs]; exact size_tok6)]

theorem ssuf_run (s : ByteArray) (k : Nat) (hk : k ≤ s.size) : ∃ t : ByteArray, t.data.toList = s.data.toList.drop k ∧ t.size ≤ s.size ∧ ∀ w, (Instr.sliceAt 9 (.string s) (some (.int .i64 (k : Int))) none none).run Tryz.prog w = .ok (.string t) w := by
  refine ⟨s.extract k s.size, ?_, ?_, fun w => ?_⟩
  · rw [Lib.extract_data, List.take_of_length_le]
    rw [List.length_drop, Array.length_toList]
    exact Nat.le_refl _
  · rw [ByteArray.size_extract]; omega
  · rw [run_sliceAt_string w 9 _ _ _ _ Tryz.underlying9]
    have := run_slice_string_l (P := Tryz.prog) (w := w) (t := 9) (s := s) (ht := Tryz.underlying9) .i64 (k : Int) (by omega) (by omega)
    rw [this, show ((k : Int)).toNat = k by omega]

theorem wordT_not (c : UInt8) (r : List UInt8) (h : ¬ (c = 48 ∧ r.head? = some 120)) : wordT (c :: r) = if isDig c then (plainT (c :: r)).map Tok.num else if c = 114 ∧ r ≠ [] ∧ r.all isDig = true then (plainT r).map Tok.reg else if (c :: r).length ≤ 12 then some (Tok.nm (c :: r)) else none := by
  unfold wordT
  split
  · rename_i h1
    simp only [List.cons.injEq] at h1
    obtain ⟨rfl, rfl⟩ := h1
    exact absurd ⟨rfl, rfl⟩ h
  · rename_i h1
    simp only [List.cons.injEq] at h1
    obtain ⟨rfl, rfl⟩ := h1
    rfl
  · rename_i h1
    cases h1

theorem optV_num (o : Option Nat) (f : Nat → Tok) (kk : Int) (hf : ∀ n, tokR (f n) = .agg #[.int .i64 kk, .string ⟨#[]⟩, .int .i64 (n : Int)]) (n : Int) (b : Bool) (h : optV o = .tuple #[.int .i64 n, .bool b]) : TokV (o.map f) (.returned (.tuple #[.agg #[.int .i64 kk, .string ⟨#[]⟩, .int .i64 n], .bool b])) := by
  cases o with
  | none =>
    simp only [optV, Value.tuple.injEq] at h
    have h' := congrArg Array.toList h
    simp at h'
    obtain ⟨rfl, rfl⟩ := h'
    exact ⟨kk, ⟨#[]⟩, 0, rfl, fun x hx => by cases hx⟩
  | some m =>
    simp only [optV, Value.tuple.injEq] at h
    have h' := congrArg Array.toList h
    simp at h'
    obtain ⟨rfl, rfl⟩ := h'
    exact ⟨kk, ⟨#[]⟩, (m : Int), rfl, fun x hx => by cases hx; exact hf m⟩
theorem optV_shape (o : Option Nat) : ∃ (n : Int) (b : Bool), optV o = .tuple #[.int .i64 n, .bool b] := by
  cases o with
  | none => exact ⟨0, false, rfl⟩
  | some m => exact ⟨(m : Int), true, rfl⟩

set_option maxRecDepth 100000 in
set_option maxHeartbeats 4000000 in
theorem word_ref (s : ByteArray) (hb : s.size ≤ 1000000) (h0 : s.data.toList ≠ []) (w : World) : Calls Tryz.prog 27 #[.string s] w fun e w' => TokV (wordT s.data.toList) e ∧ Fr none' w w' := by
  obtain ⟨n, hn⟩ : ∃ n, s.size = n := ⟨_, rfl⟩
  rw [hn] at hb
  have hsl : s.data.toList.length = n := by rw [Array.length_toList]; exact hn
  obtain ⟨c, r, hcr⟩ : ∃ c r, s.data.toList = c :: r := by
    cases h : s.data.toList with
    | nil => exact absurd h h0
    | cons c r => exact ⟨c, r, rfl⟩
  have hrl : r.length + 1 = n := by rw [← hsl, hcr]; rfl
  have hc0 : s.data.toList[0]? = some c := by rw [hcr]; rfl
  have HDig := fun w => digit_ref c w
  obtain ⟨q, hq⟩ : ∃ q, c.toNat = q := ⟨_, rfl⟩
  rw [hq] at HDig
  have hi0 : ∀ w, (Instr.index 9 (.string s) (.int .i64 0)).run Tryz.prog w = .ok (.int .u8 (q : Int)) w := fun w => sidx_run s 0 c hc0 (q : Int) (by rw [hq]) w
  have f0 := (Fr.refl none' w).alloc (.cells #[.int .i64 0, .string ⟨#[]⟩, .int .i64 0] 75)
  have r0 := row_alloc w #[.int .i64 0, .string ⟨#[]⟩, .int .i64 0] 75
  obtain ⟨k0, k1, k2⟩ : (w.alloc (.cells #[.int .i64 0, .string ⟨#[]⟩, .int .i64 0] 75)).frozen? ⟨w.heap.size, 0, none⟩ = false ∧ (w.alloc (.cells #[.int .i64 0, .string ⟨#[]⟩, .int .i64 0] 75)).frozen? ⟨w.heap.size, 1, none⟩ = false ∧ (w.alloc (.cells #[.int .i64 0, .string ⟨#[]⟩, .int .i64 0] 75)).frozen? ⟨w.heap.size, 2, none⟩ = false := ⟨r0.frozen 0, r0.frozen 1, r0.frozen 2⟩
  by_cases hx : c = 48 ∧ r.head? = some 120
  · obtain ⟨rfl, hx⟩ := hx
    obtain ⟨r', rfl⟩ : ∃ r', r = 120 :: r' := by
      cases r with
      | nil => cases hx
      | cons d r' => cases hx; exact ⟨r', rfl⟩
    obtain rfl : q = 48 := hq.symm
    rw [show isDig 48 = true by decide] at HDig
    replace HDig : ∀ w, Calls Tryz.prog 46 #[.int .u8 48] w fun e w' => e = .returned (.bool true) ∧ w' = w := HDig
    replace hi0 : ∀ w, (Instr.index 9 (.string s) (.int .i64 0)).run Tryz.prog w = .ok (.int .u8 48) w := hi0
    have hc1 : s.data.toList[1]? = some 120 := by rw [hcr]; rfl
    have hi1 : ∀ w, (Instr.index 9 (.string s) (.int .i64 1)).run Tryz.prog w = .ok (.int .u8 120) w := fun w => sidx_run s 1 120 hc1 120 rfl w
    have g1 : decide ((1 : Int) < (n : Int)) = true := decide_eq_true (by simp only [List.length_cons] at hrl; omega)
    have g2 : decide (1 < n) = true := decide_eq_true (by simp only [List.length_cons] at hrl; omega)
    obtain ⟨t, ht, hts, htr⟩ := ssuf_run s 2 (by rw [hn]; simp only [List.length_cons] at hrl; omega)
    replace htr : ∀ w, (Instr.sliceAt 9 (.string s) (some (.int .i64 2)) none none).run Tryz.prog w = .ok (.string t) w := htr
    have HH := fun w => hex_ref t w
    have hw : wordT s.data.toList = (hexT t.data.toList).map Tok.num := by rw [ht, hcr]; rfl
    rw [hw]
    obtain ⟨vn, vb, hv⟩ := optV_shape (hexT t.data.toList)
    rw [hv] at HH
    have HV := hid' (optV_num _ Tok.num 2 (fun _ => rfl) vn vb hv)
    clear hw hv ht hts hcr hc0 hc1 hrl hsl h0 hx
    go_enter Tryz.func27, Tryz.ntmps27
    go_wp2_with fail
    refine (HDig _).mono ?_
    rintro e w1 ⟨rfl, rfl⟩
    clear HDig
    go_wp2_with fail
    refine (HH _).mono ?_
    rintro e w1 ⟨rfl, rfl⟩
    clear HH
    go_wp2_with fail
    refine bodyPost_ret (ret_tok6 rfl rfl (row_alloc w _ _) rfl) rfl ?_
    exact ⟨HV.out, (Fr.refl none' w).alloc _⟩
  · have hw := wordT_not c r hx
    rw [← hcr] at hw
    -- the second sign
    have HX1 : Hid (1 < n → q = 48 → ∃ q1 : Nat, q1 ≠ 120 ∧ ∀ w, (Instr.index 9 (.string s) (.int .i64 1)).run Tryz.prog w = .ok (.int .u8 (q1 : Int)) w) := by
      intro h1 h48
      obtain ⟨d, r', rfl⟩ : ∃ d r', r = d :: r' := by
        cases r with
        | nil => simp only [List.length_nil] at hrl; omega
        | cons d r' => exact ⟨d, r', rfl⟩
      refine ⟨d.toNat, fun h => hx ⟨UInt8.toNat_inj.1 (by rw [hq, h48]; rfl), ?_⟩, fun w => sidx_run s 1 d (by rw [hcr]; rfl) _ rfl w⟩
      rw [List.head?_cons, show d = 120 from UInt8.toNat_inj.1 (by rw [h]; rfl)]
    by_cases hd : isDig c = true
    · rw [if_pos hd] at hw
      rw [hd] at HDig
      have HP := fun w => plain_ref s (by omega) w
      obtain ⟨vn, vb, hv⟩ := optV_shape (plainT s.data.toList)
      rw [hv] at HP
      have HV := hid' (optV_num _ Tok.num 2 (fun _ => rfl) vn vb hv)
      rw [hcr] at HV hw
      obtain ⟨R, hR⟩ : ∃ R, wordT s.data.toList = R := ⟨_, rfl⟩
      rw [hR]
      rw [hcr, hw] at hR
      have HR := hid' hR
      clear hR hw hv hcr hc0 hrl hsl h0 hx hd f0 r0
      by_cases h1 : 1 < n
      · have g1 : decide ((1 : Int) < (n : Int)) = true := decide_eq_true (by omega)
        have g2 : decide (1 < n) = true := decide_eq_true h1
        by_cases h48 : q = 48
        · obtain ⟨q1, hq1, hi1⟩ := HX1.out h1 h48
          have g3 : ((q1 : Int) == 120) = false := by simp; omega
          have g4 : (q1 == 120) = false := by simpa using hq1
          subst h48
          replace hi0 : ∀ w, (Instr.index 9 (.string s) (.int .i64 0)).run Tryz.prog w = .ok (.int .u8 48) w := hi0
          replace HDig : ∀ w, Calls Tryz.prog 46 #[.int .u8 48] w fun e w' => e = .returned (.bool true) ∧ w' = w := HDig
          go_enter Tryz.func27, Tryz.ntmps27
          go_wp2_with fail
          refine (HDig _).mono ?_
          rintro e w1 ⟨rfl, rfl⟩
          clear HDig
          go_wp2_with fail
          refine (HP _).mono ?_
          rintro e w1 ⟨rfl, rfl⟩
          clear HP
          go_wp2_with fail
          refine bodyPost_ret (ret_tok6 rfl rfl (row_alloc w _ _) rfl) rfl ?_
          exact ⟨by rw [← HR.out]; exact HV.out, (Fr.refl none' w).alloc _⟩
        · have g3 : ((q : Int) == 48) = false := by simp; omega
          have g4 : (q == 48) = false := by simpa using h48
          go_enter Tryz.func27, Tryz.ntmps27
          go_wp2_with fail
          refine (HDig _).mono ?_
          rintro e w1 ⟨rfl, rfl⟩
          clear HDig
          go_wp2_with fail
          refine (HP _).mono ?_
          rintro e w1 ⟨rfl, rfl⟩
          clear HP
          go_wp2_with fail
          refine bodyPost_ret (ret_tok6 rfl rfl (row_alloc w _ _) rfl) rfl ?_
          exact ⟨by rw [← HR.out]; exact HV.out, (Fr.refl none' w).alloc _⟩
      · have g1 : decide ((1 : Int) < (n : Int)) = false := decide_eq_false (by omega)
        have g2 : decide (1 < n) = false := decide_eq_false h1
        go_enter Tryz.func27, Tryz.ntmps27
        go_wp2_with fail
        refine (HDig _).mono ?_
        rintro e w1 ⟨rfl, rfl⟩
        clear HDig
        go_wp2_with fail
        refine (HP _).mono ?_
        rintro e w1 ⟨rfl, rfl⟩
        clear HP
        go_wp2_with fail
        refine bodyPost_ret (ret_tok6 rfl rfl (row_alloc w _ _) rfl) rfl ?_
        exact ⟨by rw [← HR.out]; exact HV.out, (Fr.refl none' w).alloc _⟩
    · rw [if_neg hd] at hw
      rw [show isDig c = false by simpa using hd] at HDig
      have h48 : q ≠ 48 := fun h => hd (by rw [show c = 48 from UInt8.toNat_inj.1 (by rw [hq, h]; rfl)]; decide)
      obtain ⟨t, ht, hts, htr⟩ := ssuf_run s 1 (by omega)
      replace htr : ∀ w, (Instr.sliceAt 9 (.string s) (some (.int .i64 1)) none none).run Tryz.prog w = .ok (.string t) w := htr
      have htl : t.data.toList = r := by rw [ht, hcr]; rfl
      have HP := fun w => plain_ref t (by omega) w
      obtain ⟨vn, vb, hv⟩ := optV_shape (plainT t.data.toList)
      rw [hv] at HP
      have HV := hid' (optV_num _ Tok.reg 3 (fun _ => rfl) vn vb hv)
      rw [htl] at HV
      obtain ⟨R, hR⟩ : ∃ R, wordT s.data.toList = R := ⟨_, rfl⟩
      rw [hR]
      rw [hw] at hR
      obtain ⟨B, hB⟩ : ∃ B : Bool, (decide (1 < n) && q == 114 && r.all isDig) = B := ⟨_, rfl⟩
      have hiff : (c = 114 ∧ r ≠ [] ∧ r.all isDig = true) ↔ B = true := by
        rw [← hB]
        simp only [Bool.and_eq_true, decide_eq_true_eq, beq_iff_eq]
        constructor
        · rintro ⟨h1, h2, h3⟩
          refine ⟨⟨?_, by rw [← hq, h1]; rfl⟩, h3⟩
          rcases Nat.eq_zero_or_pos r.length with h | h
          · exact absurd (List.length_eq_zero_iff.1 h) h2
          · omega
        · rintro ⟨⟨h1, h2⟩, h3⟩
          exact ⟨UInt8.toNat_inj.1 (by rw [hq, h2]; rfl), fun h => by rw [h] at hrl; simp at hrl; omega, h3⟩
      have HT : Hid (B = true → TokV R (.returned (.tuple #[.agg #[.int .i64 3, .string ⟨#[]⟩, .int .i64 vn], .bool vb]))) := by
        intro h
        rw [← hR, if_pos (hiff.2 h)]
        exact HV.out
      have hss : (⟨s.data.toList.toArray⟩ : ByteArray) = s := rfl
      have HF : Hid (B = false → TokV R (.returned (.tuple #[.agg #[.int .i64 4, .string s, .int .i64 0], .bool (decide ((n : Int) ≤ 12))]))) := by
        intro h
        rw [← hR, if_neg (fun h' => by rw [hiff.1 h'] at h; cases h)]
        rw [hsl]
        by_cases h12 : n ≤ 12
        · rw [if_pos h12, decide_eq_true (by omega : (n : Int) ≤ 12)]
          exact ⟨4, s, 0, rfl, fun x hx => by cases hx; simp only [tokR, hss]⟩
        · rw [if_neg h12, decide_eq_false (by omega : ¬ (n : Int) ≤ 12)]
          exact ⟨4, s, 0, rfl, fun x hx => by cases hx⟩
      have HL : Hid (s.data.toList.length = n ∧ s.data.toList.drop 1 = r) := ⟨hsl, by rw [hcr]; rfl⟩
      have hn1 : 1 ≤ n := by omega
      clear hR hw hv hiff hcr hc0 hrl hsl h0 hx hd f0 r0 k0 k1 k2 HV ht hts htl hss HX1 hq
      by_cases h1 : 1 < n
      · have g1 : decide ((1 : Int) < (n : Int)) = true := decide_eq_true (by omega)
        have g2 : decide (1 < n) = true := decide_eq_true h1
        have g3 : ((q : Int) == 48) = false := by simp; omega
        have g4 : (q == 48) = false := by simpa using h48
        by_cases h114 : q = 114
        · subst h114
          replace hi0 : ∀ w, (Instr.index 9 (.string s) (.int .i64 0)).run Tryz.prog w = .ok (.int .u8 114) w := hi0
          replace HDig : ∀ w, Calls Tryz.prog 46 #[.int .u8 114] w fun e w' => e = .returned (.bool false) ∧ w' = w := HDig
          have HB : Hid ((true && (s.data.toList.drop 1).all isDig) = B) := by
            show _ = _
            rw [← hB, HL.out.2, g2]; rfl
          clear hB g3 g4
          go_enter Tryz.func27, Tryz.ntmps27
          go_wp2_with fail
          refine (HDig _).mono ?_
          rintro e w1 ⟨rfl, rfl⟩
          clear HDig
          go_wp2_with fail
          go_loopw [9, 10] (fun v i wr => ∃ (k : Nat) (b : Bool), k ≤ n ∧ v = .bool b ∧ i = .int .i64 (k : Int) ∧ wr = w.alloc (.cells #[.int .i64 0, .string ⟨#[]⟩, .int .i64 0] 75) ∧ Hid ((b && (s.data.toList.drop k).all isDig) = B)) (fun _ i _ => n - (intOf i).toNat)
          case atStart => exact ⟨1, true, hn1, rfl, rfl, rfl, HB⟩
          case round =>
            clear HB
            obtain ⟨k, b, hk, rfl, rfl, rfl, HK⟩ := hrel
            by_cases hlt : k < n
            · have u1 : decide ((k : Int) < (n : Int)) = true := decide_eq_true (by omega)
              have u2 : decide (k < n) = true := decide_eq_true hlt
              cases b with
              | true =>
                obtain ⟨d, hd⟩ : ∃ d, s.data.toList[k]? = some d := ⟨_, List.getElem?_eq_getElem (by rw [HL.out.1]; exact hlt)⟩
                have hdr : s.data.toList.drop k = d :: s.data.toList.drop (k + 1) := by
                  have hk' : k < s.data.toList.length := by rw [HL.out.1]; exact hlt
                  rw [List.drop_eq_getElem_cons hk']
                  rw [List.getElem?_eq_getElem hk'] at hd
                  rw [Option.some.inj hd]
                have HK2 : Hid ((isDig d && (s.data.toList.drop (k + 1)).all isDig) = B) := by
                  have h := HK.out
                  rw [hdr] at h
                  exact h
                have HD2 := fun w => digit_ref d w
                obtain ⟨q2, hq2⟩ : ∃ q, d.toNat = q := ⟨_, rfl⟩
                have hi2 : ∀ w, (Instr.index 9 (.string s) (.int .i64 (k : Int))).run Tryz.prog w = .ok (.int .u8 (q2 : Int)) w := fun w => sidx_run s k d hd (q2 : Int) (by rw [hq2]) w
                rw [hq2] at HD2
                obtain ⟨b2, hb2⟩ : ∃ b, isDig d = b := ⟨_, rfl⟩
                rw [hb2] at HD2 HK2
                clear hd hdr HK hq2 hb2
                go_wp2_with fail
                refine (HD2 _).mono ?_
                rintro e w2 ⟨rfl, rfl⟩
                clear HD2
                go_wp2_with fail
                go_roundw
                case rel => exact ⟨k + 1, b2, by omega, rfl, by go_num, trivial, HK2⟩
                case measure => simp [intOf]; omega
              | false =>
                have hB : B = false := HK.out.symm
                have HFF := hid' (HF.out hB)
                clear HF HT HK
                go_wp2_with fail
                refine bodyPost_ret (ret_tok6 rfl rfl (row_alloc w _ _) rfl) rfl ?_
                exact ⟨HFF.out, (Fr.refl none' w).alloc _⟩
            · obtain rfl : k = n := by omega
              have u1 : decide ((k : Int) < (k : Int)) = false := decide_eq_false (by omega)
              have u2 : decide (k < k) = false := decide_eq_false (by omega)
              have hKB : b = B := by
                have h := HK.out
                rw [List.drop_of_length_le (by rw [HL.out.1]; omega)] at h
                rw [← h]; simp
              subst hKB
              cases b with
              | true =>
                have HTT := hid' (HT.out rfl)
                clear HF HT HK
                go_wp2_with fail
                refine (HP _).mono ?_
                rintro e w2 ⟨rfl, rfl⟩
                clear HP
                go_wp2_with fail
                refine bodyPost_ret (ret_tok6 rfl rfl (row_alloc w _ _) rfl) rfl ?_
                exact ⟨HTT.out, (Fr.refl none' w).alloc _⟩
              | false =>
                have HFF := hid' (HF.out rfl)
                clear HF HT HK
                go_wp2_with fail
                refine bodyPost_ret (ret_tok6 rfl rfl (row_alloc w _ _) rfl) rfl ?_
                exact ⟨HFF.out, (Fr.refl none' w).alloc _⟩
        · have g5 : ((q : Int) == 114) = false := by simp; omega
          have g6 : (q == 114) = false := by simpa using h114
          have HB : Hid ((false && (s.data.toList.drop 1).all isDig) = B) := by
            show _ = _
            rw [← hB, g2, g6]; rfl
          clear hB
          go_enter Tryz.func27, Tryz.ntmps27
          go_wp2_with fail
          refine (HDig _).mono ?_
          rintro e w1 ⟨rfl, rfl⟩
          clear HDig
          go_wp2_with fail
          go_loopw [9, 10] (fun v i wr => ∃ (k : Nat) (b : Bool), k ≤ n ∧ v = .bool b ∧ i = .int .i64 (k : Int) ∧ wr = w.alloc (.cells #[.int .i64 0, .string ⟨#[]⟩, .int .i64 0] 75) ∧ Hid ((b && (s.data.toList.drop k).all isDig) = B)) (fun _ i _ => n - (intOf i).toNat)
          case atStart => exact ⟨1, false, hn1, rfl, rfl, rfl, HB⟩
          case round =>
            clear HB
            obtain ⟨k, b, hk, rfl, rfl, rfl, HK⟩ := hrel
            by_cases hlt : k < n
            · have u1 : decide ((k : Int) < (n : Int)) = true := decide_eq_true (by omega)
              have u2 : decide (k < n) = true := decide_eq_true hlt
              cases b with
              | true =>
                obtain ⟨d, hd⟩ : ∃ d, s.data.toList[k]? = some d := ⟨_, List.getElem?_eq_getElem (by rw [HL.out.1]; exact hlt)⟩
                have hdr : s.data.toList.drop k = d :: s.data.toList.drop (k + 1) := by
                  have hk' : k < s.data.toList.length := by rw [HL.out.1]; exact hlt
                  rw [List.drop_eq_getElem_cons hk']
                  rw [List.getElem?_eq_getElem hk'] at hd
                  rw [Option.some.inj hd]
                have HK2 : Hid ((isDig d && (s.data.toList.drop (k + 1)).all isDig) = B) := by
                  have h := HK.out
                  rw [hdr] at h
                  exact h
                have HD2 := fun w => digit_ref d w
                obtain ⟨q2, hq2⟩ : ∃ q, d.toNat = q := ⟨_, rfl⟩
                have hi2 : ∀ w, (Instr.index 9 (.string s) (.int .i64 (k : Int))).run Tryz.prog w = .ok (.int .u8 (q2 : Int)) w := fun w => sidx_run s k d hd (q2 : Int) (by rw [hq2]) w
                rw [hq2] at HD2
                obtain ⟨b2, hb2⟩ : ∃ b, isDig d = b := ⟨_, rfl⟩
                rw [hb2] at HD2 HK2
                clear hd hdr HK hq2 hb2
                go_wp2_with fail
                refine (HD2 _).mono ?_
                rintro e w2 ⟨rfl, rfl⟩
                clear HD2
                go_wp2_with fail
                go_roundw
                case rel => exact ⟨k + 1, b2, by omega, rfl, by go_num, trivial, HK2⟩
                case measure => simp [intOf]; omega
              | false =>
                have hB : B = false := HK.out.symm
                have HFF := hid' (HF.out hB)
                clear HF HT HK
                go_wp2_with fail
                refine bodyPost_ret (ret_tok6 rfl rfl (row_alloc w _ _) rfl) rfl ?_
                exact ⟨HFF.out, (Fr.refl none' w).alloc _⟩
            · obtain rfl : k = n := by omega
              have u1 : decide ((k : Int) < (k : Int)) = false := decide_eq_false (by omega)
              have u2 : decide (k < k) = false := decide_eq_false (by omega)
              have hKB : b = B := by
                have h := HK.out
                rw [List.drop_of_length_le (by rw [HL.out.1]; omega)] at h
                rw [← h]; simp
              subst hKB
              cases b with
              | true =>
                have HTT := hid' (HT.out rfl)
                clear HF HT HK
                go_wp2_with fail
                refine (HP _).mono ?_
                rintro e w2 ⟨rfl, rfl⟩
                clear HP
                go_wp2_with fail
                refine bodyPost_ret (ret_tok6 rfl rfl (row_alloc w _ _) rfl) rfl ?_
                exact ⟨HTT.out, (Fr.refl none' w).alloc _⟩
              | false =>
                have HFF := hid' (HF.out rfl)
                clear HF HT HK
                go_wp2_with fail
                refine bodyPost_ret (ret_tok6 rfl rfl (row_alloc w _ _) rfl) rfl ?_
                exact ⟨HFF.out, (Fr.refl none' w).alloc _⟩
      · have g1 : decide ((1 : Int) < (n : Int)) = false := decide_eq_false (by omega)
        have g2 : decide (1 < n) = false := decide_eq_false h1
        have HB : Hid ((false && (s.data.toList.drop 1).all isDig) = B) := by
          show _ = _
          rw [← hB, g2]; rfl
        clear hB
        go_enter Tryz.func27, Tryz.ntmps27
        go_wp2_with fail
        refine (HDig _).mono ?_
        rintro e w1 ⟨rfl, rfl⟩
        clear HDig
        go_wp2_with fail
        go_loopw [9, 10] (fun v i wr => ∃ (k : Nat) (b : Bool), k ≤ n ∧ v = .bool b ∧ i = .int .i64 (k : Int) ∧ wr = w.alloc (.cells #[.int .i64 0, .string ⟨#[]⟩, .int .i64 0] 75) ∧ Hid ((b && (s.data.toList.drop k).all isDig) = B)) (fun _ i _ => n - (intOf i).toNat)
        case atStart => exact ⟨1, false, hn1, rfl, rfl, rfl, HB⟩
        case round =>
          clear HB
          obtain ⟨k, b, hk, rfl, rfl, rfl, HK⟩ := hrel
          by_cases hlt : k < n
          · have u1 : decide ((k : Int) < (n : Int)) = true := decide_eq_true (by omega)
            have u2 : decide (k < n) = true := decide_eq_true hlt
            cases b with
            | true =>
              obtain ⟨d, hd⟩ : ∃ d, s.data.toList[k]? = some d := ⟨_, List.getElem?_eq_getElem (by rw [HL.out.1]; exact hlt)⟩
              have hdr : s.data.toList.drop k = d :: s.data.toList.drop (k + 1) := by
                have hk' : k < s.data.toList.length := by rw [HL.out.1]; exact hlt
                rw [List.drop_eq_getElem_cons hk']
                rw [List.getElem?_eq_getElem hk'] at hd
                rw [Option.some.inj hd]
              have HK2 : Hid ((isDig d && (s.data.toList.drop (k + 1)).all isDig) = B) := by
                have h := HK.out
                rw [hdr] at h
                exact h
              have HD2 := fun w => digit_ref d w
              obtain ⟨q2, hq2⟩ : ∃ q, d.toNat = q := ⟨_, rfl⟩
              have hi2 : ∀ w, (Instr.index 9 (.string s) (.int .i64 (k : Int))).run Tryz.prog w = .ok (.int .u8 (q2 : Int)) w := fun w => sidx_run s k d hd (q2 : Int) (by rw [hq2]) w
              rw [hq2] at HD2
              obtain ⟨b2, hb2⟩ : ∃ b, isDig d = b := ⟨_, rfl⟩
              rw [hb2] at HD2 HK2
              clear hd hdr HK hq2 hb2
              go_wp2_with fail
              refine (HD2 _).mono ?_
              rintro e w2 ⟨rfl, rfl⟩
              clear HD2
              go_wp2_with fail
              go_roundw
              case rel => exact ⟨k + 1, b2, by omega, rfl, by go_num, trivial, HK2⟩
              case measure => simp [intOf]; omega
            | false =>
              have hB : B = false := HK.out.symm
              have HFF := hid' (HF.out hB)
              clear HF HT HK
              go_wp2_with fail
              refine bodyPost_ret (ret_tok6 rfl rfl (row_alloc w _ _) rfl) rfl ?_
              exact ⟨HFF.out, (Fr.refl none' w).alloc _⟩
          · obtain rfl : k = n := by omega
            have u1 : decide ((k : Int) < (k : Int)) = false := decide_eq_false (by omega)
            have u2 : decide (k < k) = false := decide_eq_false (by omega)
            have hKB : b = B := by
              have h := HK.out
              rw [List.drop_of_length_le (by rw [HL.out.1]; omega)] at h
              rw [← h]; simp
            subst hKB
            cases b with
            | true =>
              have HTT := hid' (HT.out rfl)
              clear HF HT HK
              go_wp2_with fail
              refine (HP _).mono ?_
              rintro e w2 ⟨rfl, rfl⟩
              clear HP
              go_wp2_with fail
              refine bodyPost_ret (ret_tok6 rfl rfl (row_alloc w _ _) rfl) rfl ?_
              exact ⟨HTT.out, (Fr.refl none' w).alloc _⟩
            | false =>
              have HFF := hid' (HF.out rfl)
              clear HF HT HK
              go_wp2_with fail
              refine bodyPost_ret (ret_tok6 rfl rfl (row_alloc w _ _) rfl) rfl ?_
              exact ⟨HFF.out, (Fr.refl none' w).alloc _⟩

end Go.Proofs.YtecipogfdhpjfaaGreatDoor

