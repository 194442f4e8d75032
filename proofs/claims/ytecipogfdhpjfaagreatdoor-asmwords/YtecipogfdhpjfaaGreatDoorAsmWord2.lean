/-
  The contracts of package asm's 'written' and 'wordToken' over the translation: what a word is, as a token's value. No statement is proved here.
-/
import Derived.Test.YtecipogfdhpjfaaGreatDoorAsmWord
namespace Go.Proofs.YtecipogfdhpjfaaGreatDoor
open Go.RowKit

theorem cap_fold : ∀ (l : List UInt8) (n : Nat), l.foldl (fun n c => min (n * 10 + (c.toNat - 48)) 4294967296) (min n 4294967296) = min (l.foldl (fun n c => min (10 * n + (c.toNat - 48)) 1099511627776) n) 4294967296
  | [], n => rfl
  | c :: l, n => by
    simp only [List.foldl_cons]
    rw [← cap_fold l (min (10 * n + (c.toNat - 48)) 1099511627776)]
    congr 1
    omega
theorem worth10 : ∀ (l : List UInt8) (n : Nat), worthF 10 l n = if l.all isDig then some (l.foldl (fun n c => min (n * 10 + (c.toNat - 48)) 4294967296) n) else none
  | [], n => rfl
  | c :: l, n => by
    simp only [worthF, List.all_cons, List.foldl_cons]
    rw [dix10]
    by_cases h : isDig c = true
    · rw [if_pos h, if_neg (by omega), worth10 l]
      simp [h]
    · rw [if_neg h]
      simp [h]
theorem worth10_dec (l : List UInt8) : worthF 10 l 0 = if l.all isDig then some (min (decN l) 4294967296) else none := by
  rw [worth10]
  have := cap_fold l 0
  simp only [Nat.zero_min] at this
  rw [this]
  rfl
theorem hexD_le {c : UInt8} {d : Nat} (h : hexD c = some d) : d ≤ 15 := by
  have := (dix_bd 16 (Or.inr rfl) c).1
  rw [dix16, h] at this
  simp at this
  omega
theorem worth16 : ∀ (l : List UInt8) (n : Nat), (n + 1) * 16 ^ l.length ≤ 4294967296 → worthF 16 l n = hexN l n
  | [], n, _ => rfl
  | c :: l, n, h => by
    simp only [worthF, hexN]
    rw [dix16]
    cases hd : hexD c with
    | none => simp
    | some d =>
      have := hexD_le hd
      have hb : (16 * n + d + 1) * 16 ^ l.length ≤ (n + 1) * 16 ^ (c :: l).length := by
        rw [List.length_cons, Nat.pow_succ, Nat.mul_comm (16 ^ l.length) 16, ← Nat.mul_assoc]
        exact Nat.mul_le_mul_right _ (by omega)
      have hp : 1 ≤ 16 ^ l.length := Nat.pos_of_ne_zero (by simp)
      have hq : 16 * n + d + 1 ≤ 4294967296 := Nat.le_trans (Nat.le_mul_of_pos_right _ (by omega)) (Nat.le_trans hb h)
      simp only
      rw [if_neg (by omega), show min (n * 16 + ((d : Nat) : Int).toNat) 4294967296 = 16 * n + d by simp; omega]
      exact worth16 l (16 * n + d) (Nat.le_trans hb h)

/-- A number in either of its ways. -/
def wrv (l : List UInt8) : Int := if Lib.hasPrefix l [48, 120] then wv 16 (l.drop 2) else dcv l
def wro (l : List UInt8) : Bool := if Lib.hasPrefix l [48, 120] then wok 16 (l.drop 2) && decide ((l.drop 2).length ≤ 8) else dco l

set_option maxHeartbeats 800000 in
theorem written_any (s : ByteArray) (ha : ∀ c ∈ s.data.toList, c.toNat < 128) (w : World) :
    Calls Tryz.prog 91 #[.string s] w fun e w' => e = .returned (.tuple #[.int .i64 (wrv s.data.toList), .bool (wro s.data.toList)]) ∧ Fr none' w w' := by
  have hD := fun w => decimal_any s ha w
  have hP := fun w => Tryz.strings_CutPrefix s { data := #[48, 120] } w
  simp only at hP
  cases hh : Lib.hasPrefix s.data.toList [48, 120]
  · have e1 : wrv s.data.toList = dcv s.data.toList := by unfold wrv; rw [hh]; rfl
    have e2 : wro s.data.toList = dco s.data.toList := by unfold wro; rw [hh]; rfl
    rw [e1, e2]
    rw [hh] at hP
    clear hh e1 e2 ha
    go_enter Tryz.func91, Tryz.ntmps91
    go_wp2_with (first | (go_at_call 92; refine (hP _).mono ?_; rintro e w1 ⟨rfl, rfl⟩) | (go_at_call 94; refine (hD _).mono ?_; rintro e w1 ⟨rfl, f1⟩))
    go_ret2
    exact ⟨rfl, f1⟩
  · have hb : ∀ c ∈ (s.data.toList.drop 2), c.toNat < 128 := fun c hc => ha c (List.mem_of_mem_drop hc)
    have e1 : wrv s.data.toList = wv 16 (s.data.toList.drop 2) := by unfold wrv; rw [hh]; rfl
    have e2 : wro s.data.toList = (wok 16 (s.data.toList.drop 2) && decide ((s.data.toList.drop 2).length ≤ 8)) := by unfold wro; rw [hh]; rfl
    have e3 : Lib.trimPrefix s.data.toList [48, 120] = s.data.toList.drop 2 := by unfold Lib.trimPrefix; rw [hh]; rfl
    rw [e1, e2]
    rw [hh, e3] at hP
    obtain ⟨r, hr⟩ : ∃ r : ByteArray, r = ⟨(s.data.toList.drop 2).toArray⟩ := ⟨_, rfl⟩
    have hrl : s.data.toList.drop 2 = r.data.toList := by rw [hr]
    rw [← hr] at hP
    rw [hrl] at hb ⊢
    have hW := fun w => worth_any r 16 (Or.inr rfl) hb w
    have hl : r.size = r.data.toList.length := Lib.size_eq r
    obtain ⟨x, hx⟩ : ∃ x, wok 16 r.data.toList = x := ⟨_, rfl⟩
    rw [hx] at hW ⊢
    clear hx hr hrl hb e1 e2 e3 hh ha hD
    by_cases h8 : r.size ≤ 8
    · have t1 : decide ((r.size : Int) ≤ 8) = true := by simp; omega
      have H8 : Hid (decide (r.data.toList.length ≤ 8) = true) := by show _ = _; simp; omega
      clear h8 hl
      cases x
      all_goals go_enter Tryz.func91, Tryz.ntmps91
      all_goals go_wp2_with (first | (go_at_call 92; refine (hP _).mono ?_; rintro e w1 ⟨rfl, rfl⟩) | (go_at_call 110; refine (hW _).mono ?_; rintro e w1 ⟨rfl, f1⟩))
      all_goals go_ret2
      all_goals exact ⟨ret_ib rfl (by rw [H8.out]; rfl), f1⟩
    · have t1 : decide ((r.size : Int) ≤ 8) = false := by simp; omega
      have H8 : Hid (decide (r.data.toList.length ≤ 8) = false) := by show _ = _; simp; omega
      clear h8 hl
      cases x
      all_goals go_enter Tryz.func91, Tryz.ntmps91
      all_goals go_wp2_with (first | (go_at_call 92; refine (hP _).mono ?_; rintro e w1 ⟨rfl, rfl⟩) | (go_at_call 110; refine (hW _).mono ?_; rintro e w1 ⟨rfl, f1⟩))
      all_goals go_ret2
      all_goals exact ⟨ret_ib rfl (by rw [H8.out]; rfl), f1⟩

/-- A token as the program has it. -/
def tval : Tok → Value
  | .sg c => .iface 121 (.int .i32 (c.toNat : Int))
  | .num n => .iface 127 (.int .i64 ((min n 4294967296 : Nat) : Int))
  | .reg n => .iface 126 (.int .i64 ((min n 4294967296 : Nat) : Int))
  | .nm s => .iface 123 (.string ⟨s.toArray⟩)

theorem plain_dco (l : List UInt8) : dco l = (plainT l).isSome ∧ ∀ n, plainT l = some n → dcv l = ((min n 4294967296 : Nat) : Int) := by
  unfold dco dcv plainT wok wv
  rw [worth10_dec]
  by_cases h0 : l = []
  · subst h0; simp
  · have hE : l.isEmpty = false := by simpa using h0
    by_cases h1 : 1 < l.length ∧ l.head? = some 48
    · simp [h1]
    · rw [if_neg h1, if_neg h1, if_neg (c := l = [] ∨ (1 < l.length ∧ l.head? = some 48)) (by rintro (h | h); exact h0 h; exact h1 h)]
      by_cases hall : l.all isDig = true
      · simp only [hall, if_true, hE]
        refine ⟨rfl, fun n hn => ?_⟩
        cases hn
        rfl
      · simp [hall]

theorem hex_wok (l : List UInt8) : (wok 16 l && decide (l.length ≤ 8)) = (hexT l).isSome ∧ ∀ n, hexT l = some n → wv 16 l = ((min n 4294967296 : Nat) : Int) := by
  unfold wok wv hexT
  by_cases h0 : l = []
  · subst h0; simp
  · have hE : l.isEmpty = false := by simpa using h0
    by_cases h8 : l.length ≤ 8
    · have hp : 16 ^ l.length ≤ 16 ^ 8 := Nat.pow_le_pow_right (by omega) h8
      rw [worth16 l 0 (by simpa using hp), if_neg (by rintro (h | h); exact h0 h; omega)]
      refine ⟨by simp [hE, h8], fun n hn => ?_⟩
      have hle : worthF 16 l 0 = some n := by rw [worth16 l 0 (by simpa using hp)]; exact hn
      have := worth_le 16 l 0 n (by omega) hle
      rw [hn]
      simp
      omega
    · rw [if_pos (Or.inr (by omega))]
      simp [h8]

theorem num_word {c : UInt8} {r : List UInt8} (hd : isDig c = true) : wro (c :: r) = (wordT (c :: r)).isSome ∧ ∀ t, wordT (c :: r) = some t → t = .num (match t with | .num n => n | _ => 0) ∧ wrv (c :: r) = (((min (match t with | .num n => n | _ => 0) 4294967296 : Nat)) : Int) := by
  by_cases hx : ∃ r', c = 48 ∧ r = 120 :: r'
  · obtain ⟨r', rfl, rfl⟩ := hx
    obtain ⟨h1, h2⟩ := hex_wok r'
    have e : Lib.hasPrefix (48 :: 120 :: r') [48, 120] = true := by simp [Lib.hasPrefix, List.isPrefixOf]
    unfold wro wrv
    rw [e]
    simp only [if_true, List.drop_succ_cons, List.drop_zero, wordT]
    refine ⟨by rw [h1]; simp, fun t ht => ?_⟩
    cases hn : hexT r' with
    | none => rw [hn] at ht; simp at ht
    | some n =>
      rw [hn] at ht
      simp at ht
      subst ht
      exact ⟨rfl, h2 n hn⟩
  · have e : Lib.hasPrefix (c :: r) [48, 120] = false := by
      cases r with
      | nil => simp [Lib.hasPrefix, List.isPrefixOf]
      | cons a r' =>
        simp only [Lib.hasPrefix, List.isPrefixOf, Bool.and_true, Bool.and_eq_false_iff, beq_eq_false_iff_ne]
        by_cases h48 : c = 48
        · exact Or.inr (fun h => hx ⟨r', h48, by rw [h]⟩)
        · exact Or.inl (fun h => h48 h.symm)
    have ew : wordT (c :: r) = (plainT (c :: r)).map Tok.num := by
      unfold wordT
      split
      · rename_i r' h
        simp only [List.cons.injEq] at h
        exact absurd ⟨r', h.1, h.2⟩ hx
      · rename_i c' r' _ h
        simp only [List.cons.injEq] at h
        obtain ⟨rfl, rfl⟩ := h
        rw [if_pos hd]
      · rename_i h; cases h
    obtain ⟨h1, h2⟩ := plain_dco (c :: r)
    unfold wro wrv
    rw [e, ew]
    refine ⟨by simp [h1], fun t ht => ?_⟩
    cases hn : plainT (c :: r) with
    | none => rw [hn] at ht; simp at ht
    | some n =>
      rw [hn] at ht
      simp at ht
      subst ht
      exact ⟨rfl, by simpa using h2 n hn⟩

theorem wrd_lt {c : UInt8} (h : isWrd c = true) : c.toNat < 128 := by
  simp only [isWrd, isDig, Bool.or_eq_true, Bool.and_eq_true, decide_eq_true_eq, beq_iff_eq] at h
  rcases h with (h | h) | h
  · omega
  · omega
  · subst h; decide

theorem dig_int (c : UInt8) : (decide (48 ≤ (c.toNat : Int)) && decide ((c.toNat : Int) ≤ 57)) = isDig c := by
  unfold isDig
  congr 1
  · exact decide_eq_decide.2 (by omega)
  · exact decide_eq_decide.2 (by omega)

theorem w32_byte (c : UInt8) : wrap32 (c.toNat : Int) = (c.toNat : Int) := by have := c.toNat_lt; unfold wrap32; omega

theorem word_rest {c : UInt8} {r : List UInt8} (hd : isDig c = false) : wordT (c :: r) = if c = 114 ∧ r ≠ [] ∧ r.all isDig = true then (plainT r).map Tok.reg else if (c :: r).length ≤ 12 then some (Tok.nm (c :: r)) else none := by
  unfold wordT
  split
  · rename_i r' h
    simp only [List.cons.injEq] at h
    obtain ⟨rfl, rfl⟩ := h
    cases hd
  · rename_i c' r' _ h
    simp only [List.cons.injEq] at h
    obtain ⟨rfl, rfl⟩ := h
    rw [if_neg (by rw [hd]; simp)]
  · rename_i h; cases h

theorem tval_num {r : List UInt8} {c : UInt8} {t : Tok} (h : t = .num (match t with | .num n => n | _ => 0) ∧ wrv (c :: r) = (((min (match t with | .num n => n | _ => 0) 4294967296 : Nat)) : Int)) : Value.iface 127 (.int .i64 (wrv (c :: r))) = tval t := by
  cases t with
  | num n => rw [h.2]; rfl
  | sg _ => cases h.1
  | reg _ => cases h.1
  | nm _ => cases h.1

theorem name_end {s : ByteArray} {c : UInt8} {r : List UInt8} (hmk : s = ⟨(c :: r).toArray⟩) (hT : wordT (c :: r) = if (c :: r).length ≤ 12 then some (Tok.nm (c :: r)) else none) :
    ∃ v, Ending.returned (.tuple #[.iface 123 (.string s), .bool (decide ((s.size : Int) ≤ 12))]) = .returned (.tuple #[v, .bool (wordT (c :: r)).isSome]) ∧ ∀ t, wordT (c :: r) = some t → v = tval t := by
  have hS : decide ((s.size : Int) ≤ 12) = decide ((c :: r).length ≤ 12) := decide_eq_decide.2 (by rw [hmk, Lib.size_eq]; simp only [List.length_cons]; omega)
  rw [hT, hS]
  refine ⟨.iface 123 (.string s), ?_, ?_⟩
  · by_cases h : (c :: r).length ≤ 12
    · rw [if_pos h, decide_eq_true h]; rfl
    · rw [if_neg h, decide_eq_false h]; rfl
  · intro t ht
    split at ht
    · cases ht; rw [hmk]; rfl
    · cases ht

set_option maxRecDepth 100000 in
set_option maxHeartbeats 1600000 in
theorem wordtoken_any (s : ByteArray) (h0 : 0 < s.size) (hw : ∀ c ∈ s.data.toList, isWrd c = true) (w : World) :
    Calls Tryz.prog 68 #[.string s] w fun e w' => (∃ v, e = .returned (.tuple #[v, .bool (wordT s.data.toList).isSome]) ∧ ∀ t, wordT s.data.toList = some t → v = tval t) ∧ Fr none' w w' := by
  have ha : ∀ c ∈ s.data.toList, c.toNat < 128 := fun c hc => wrd_lt (hw c hc)
  obtain ⟨c, r, hl⟩ : ∃ c r, s.data.toList = c :: r := by
    cases hl : s.data.toList with
    | nil => rw [Lib.size_eq, hl] at h0; simp at h0
    | cons c r => exact ⟨c, r, rfl⟩
  have hc0 : s[0]'h0 = c := by
    have := bytes_lt s 0 h0
    rw [hl] at this
    exact (Option.some.inj this).symm
  have hD := fun w => isdigit_any (wrap32 (c.toNat : Int)) w
  rw [show (decide (48 ≤ wrap32 (c.toNat : Int)) && decide (wrap32 (c.toNat : Int) ≤ 57)) = isDig c by rw [w32_byte]; exact dig_int c] at hD
  have hsz : s.size = (c :: r).length := by rw [Lib.size_eq, hl]
  have hmk : s = ⟨(c :: r).toArray⟩ := by rw [← hl, Lib.mk_data]
  cases hd : isDig c
  · rw [hd] at hD
    have hT := word_rest (r := r) hd
    have hP := fun w => Tryz.strings_CutPrefix s { data := #[114] } w
    simp only at hP
    rw [hl] at hP ⊢
    have HMK : Hid (s = ⟨(c :: r).toArray⟩) := hmk
    by_cases h114 : c = 114
    · have e1 : Lib.hasPrefix (c :: r) [114] = true := by subst h114; simp [Lib.hasPrefix, List.isPrefixOf]
      have e2 : Lib.trimPrefix (c :: r) [114] = r := by unfold Lib.trimPrefix; rw [e1]; rfl
      rw [e1, e2] at hP
      obtain ⟨q, hq⟩ : ∃ q : ByteArray, q = ⟨r.toArray⟩ := ⟨_, rfl⟩
      have hql : q.data.toList = r := by rw [hq]
      have hr : ∀ c ∈ q.data.toList, c.toNat < 128 := fun x hx => ha x (by rw [hl]; rw [hql] at hx; exact List.mem_cons_of_mem _ hx)
      rw [← hq] at hP
      have hA := fun w => alldig_any q hr w
      have hM := fun w => decimal_any q hr w
      rw [hql] at hA hM
      obtain ⟨p1, p2⟩ := plain_dco r
      by_cases hg : r ≠ [] ∧ r.all isDig = true
      · have e3 : (r.all isDig && !r.isEmpty) = true := by rw [hg.2]; simpa using hg.1
        rw [e3] at hA
        rw [if_pos ⟨h114, hg⟩] at hT
        rw [p1, show (plainT r).isSome = (wordT (c :: r)).isSome by rw [hT]; simp] at hM
        have P2 : Hid (∀ n, plainT r = some n → dcv r = ((min n 4294967296 : Nat) : Int)) := p2
        have HT : Hid (wordT (c :: r) = (plainT r).map Tok.reg) := hT
        clear hT p1 p2 hg hr hq hql e1 e2 e3 h114 ha hw hmk hl hsz hd
        go_enter Tryz.func68, Tryz.ntmps68
        go_wp2_with (first | (go_at_call 90; refine (hD _).mono ?_; rintro e w1 ⟨rfl, rfl⟩) | (go_at_call 92; refine (hP _).mono ?_; rintro e w1 ⟨rfl, rfl⟩) | (go_at_call 93; refine (hA _).mono ?_; rintro e w1 ⟨rfl, f1⟩) | (go_at_call 94; refine (hM _).mono ?_; rintro e w2 ⟨rfl, f2⟩))
        go_ret2
        refine ⟨⟨_, rfl, fun t ht => ?_⟩, f1.trans f2⟩
        rw [HT.out] at ht
        cases hn : plainT r with
        | none => rw [hn] at ht; simp at ht
        | some n =>
          rw [hn] at ht
          simp at ht
          subst ht
          rw [P2.out n hn]
          rfl
      · have e3 : (r.all isDig && !r.isEmpty) = false := by
          cases hx : (r.all isDig && !r.isEmpty)
          · rfl
          · simp only [Bool.and_eq_true, Bool.not_eq_true', List.isEmpty_eq_false_iff] at hx
            exact absurd ⟨hx.2, hx.1⟩ hg
        rw [e3] at hA
        rw [if_neg (fun h => hg h.2)] at hT
        have HT : Hid (wordT (c :: r) = if (c :: r).length ≤ 12 then some (Tok.nm (c :: r)) else none) := hT
        clear hT p1 p2 hg hr hq hql e1 e2 e3 h114 ha hw hmk hl hsz hd hM
        go_enter Tryz.func68, Tryz.ntmps68
        go_wp2_with (first | (go_at_call 90; refine (hD _).mono ?_; rintro e w1 ⟨rfl, rfl⟩) | (go_at_call 92; refine (hP _).mono ?_; rintro e w1 ⟨rfl, rfl⟩) | (go_at_call 93; refine (hA _).mono ?_; rintro e w1 ⟨rfl, f1⟩))
        go_ret2
        exact ⟨name_end HMK.out HT.out, f1⟩
    · have e1 : Lib.hasPrefix (c :: r) [114] = false := by simp [Lib.hasPrefix, List.isPrefixOf, Ne.symm h114]
      rw [e1] at hP
      rw [if_neg (fun h => h114 h.1)] at hT
      have HT : Hid (wordT (c :: r) = if (c :: r).length ≤ 12 then some (Tok.nm (c :: r)) else none) := hT
      clear hT e1 h114 ha hw hmk hl hsz hd
      go_enter Tryz.func68, Tryz.ntmps68
      go_wp2_with (first | (go_at_call 90; refine (hD _).mono ?_; rintro e w1 ⟨rfl, rfl⟩) | (go_at_call 92; refine (hP _).mono ?_; rintro e w1 ⟨rfl, rfl⟩))
      go_ret2
      exact ⟨name_end HMK.out HT.out, Fr.refl _ _⟩
  · obtain ⟨h1, h2⟩ := num_word (r := r) hd
    have hW := fun w => written_any s ha w
    rw [hl] at hW ⊢
    rw [h1] at hW
    rw [hd] at hD
    have H2 : Hid (∀ t, wordT (c :: r) = some t → t = .num (match t with | .num n => n | _ => 0) ∧ wrv (c :: r) = (((min (match t with | .num n => n | _ => 0) 4294967296 : Nat)) : Int)) := h2
    clear h1 h2 ha hw hl hmk hsz
    go_enter Tryz.func68, Tryz.ntmps68
    go_wp2_with (first | (go_at_call 90; refine (hD _).mono ?_; rintro e w1 ⟨rfl, rfl⟩) | (go_at_call 91; refine (hW _).mono ?_; rintro e w1 ⟨rfl, f1⟩))
    go_ret2
    exact ⟨⟨_, rfl, fun t ht => tval_num (H2.out t ht)⟩, f1⟩

end Go.Proofs.YtecipogfdhpjfaaGreatDoor
