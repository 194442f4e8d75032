/-
  The contracts of package asm's readers of words over the translation: what the digits of a text come to. No statement is proved here.
-/
import Derived.Test.YtecipogfdhpjfaaGreatDoorAsmTok
namespace Go.Proofs.YtecipogfdhpjfaaGreatDoor
open Go.RowKit

def inW (c : Int) : Bool := (decide (97 ≤ c) && decide (c ≤ 122)) || ((decide (48 ≤ c) && decide (c ≤ 57)) || c == 95)

set_option maxHeartbeats 800000 in
theorem inword_any (c : Int) (w : World) : Calls Tryz.prog 67 #[.int .i32 c] w fun e w' => e = .returned (.bool (inW c)) ∧ w' = w := by
  have hd := isdigit_any c w
  obtain ⟨x, hx⟩ : ∃ x, (decide (48 ≤ c) && decide (c ≤ 57)) = x := ⟨_, rfl⟩
  rw [hx] at hd
  have HX : Hid ((decide (48 ≤ c) && decide (c ≤ 57)) = x) := hx
  clear hx
  by_cases h1 : 97 ≤ c
  · have g1 : decide (c ≥ 97) = true := by simpa using h1
    have k1 : Hid (97 ≤ c) := h1
    clear h1
    by_cases h2 : c ≤ 122
    · have g2 : decide (c ≤ 122) = true := by simpa using h2
      have k2 : Hid (c ≤ 122) := h2
      clear h2
      go_enter Tryz.func67, Tryz.ntmps67
      go_wp2_with (go_at_call 90; refine hd.mono ?_; rintro e w1 ⟨rfl, rfl⟩)
      go_ret
      exact ⟨ret_bool (by have := k1.out; have := k2.out; simp [inW, *]), rfl⟩
    · have g2 : decide (c ≤ 122) = false := by simpa using h2
      have k2 : Hid (¬ c ≤ 122) := h2
      clear h2
      cases x
      all_goals go_enter Tryz.func67, Tryz.ntmps67
      all_goals go_wp2_with (go_at_call 90; refine hd.mono ?_; rintro e w1 ⟨rfl, rfl⟩)
      all_goals go_ret
      all_goals exact ⟨ret_bool (by have := k2.out; have := HX.out; simp [inW, *]), rfl⟩
  · have g1 : decide (c ≥ 97) = false := by simpa using h1
    have k1 : Hid (¬ 97 ≤ c) := h1
    clear h1
    cases x
    all_goals go_enter Tryz.func67, Tryz.ntmps67
    all_goals go_wp2_with (go_at_call 90; refine hd.mono ?_; rintro e w1 ⟨rfl, rfl⟩)
    all_goals go_ret
    all_goals exact ⟨ret_bool (by have := k1.out; have := HX.out; simp [inW, *]), rfl⟩

theorem w64_id {x : Int} (h : -9223372036854775808 ≤ x) (h' : x ≤ 9223372036854775807) : wrap64 x = x := by unfold wrap64; omega

theorem ret_ib {a b : Int} {x y : Bool} (h : a = b) (h' : x = y) : Ending.returned (.tuple #[.int .i64 a, .bool x]) = .returned (.tuple #[.int .i64 b, .bool y]) := by rw [h, h']

theorem dix_bd (b : Nat) (hb : b = 10 ∨ b = 16) (c : UInt8) : dix b c ≤ 15 ∧ -1 ≤ dix b c := by
  have h : ∀ n : Fin 256, (dix 10 (UInt8.ofNat n.val) ≤ 15 ∧ -1 ≤ dix 10 (UInt8.ofNat n.val)) ∧ (dix 16 (UInt8.ofNat n.val) ≤ 15 ∧ -1 ≤ dix 16 (UInt8.ofNat n.val)) := by decide +kernel
  have := h ⟨c.toNat, by have := c.toNat_lt; omega⟩
  simp only [UInt8.ofNat_toNat] at this
  rcases hb with rfl | rfl
  · exact this.1
  · exact this.2

def digB (b : Nat) : ByteArray := ByteArray.extract { data := #[48, 49, 50, 51, 52, 53, 54, 55, 56, 57, 97, 98, 99, 100, 101, 102] } 0 b

set_option maxRecDepth 100000 in
set_option maxHeartbeats 1600000 in
theorem worth_any (s : ByteArray) (b : Nat) (hb : b = 10 ∨ b = 16) (ha : ∀ c ∈ s.data.toList, c.toNat < 128) (w : World) :
    Calls Tryz.prog 110 #[.string s, .int .i64 b] w fun e w' => e = .returned (.tuple #[.int .i64 (wv b s.data.toList), .bool (wok b s.data.toList)]) ∧ Fr none' w w' := by
  have HB : Hid (b = 10 ∨ b = 16) := hb
  have HA : Hid (∀ c ∈ s.data.toList, c.toNat < 128) := ha
  have hb0 : (b : Int) ≤ 16 := by omega
  have hb1 : 0 ≤ (b : Int) := by omega
  clear ha hb
  go_enter Tryz.func110, Tryz.ntmps110
  go_wp2_with fail
  go_loopw [6] (fun a wr => ∃ p n : Nat, p ≤ s.size ∧ worthF b (s.data.toList.take p) 0 = some n ∧ a = .int .i64 n ∧ Fr none' w wr ∧ It wr w.heap.size s p) (fun _ wr => s.size - itPos wr w.heap.size)
  case atStart => exact ⟨0, 0, by omega, rfl, rfl, (Fr.refl _ _).alloc _, it_new w s⟩
  case round =>
    obtain ⟨p, n, hp, hw, rfl, fk, ik⟩ := hrel
    have M : Hid (itPos wr w.heap.size = p) := ik.pos
    by_cases he : p = s.size
    · subst he
      rw [take_all] at hw
      have HW : Hid (worthF b s.data.toList 0 = some n) := hw
      have hn := fun ty => next_none (P := Tryz.prog) ik (by omega) ty
      obtain ⟨x, hx⟩ : ∃ x, s.toList.isEmpty = x := ⟨_, rfl⟩
      have HX : Hid (s.toList.isEmpty = x) := hx
      clear hp hw ik M
      cases x
      all_goals go_wp2
      all_goals go_ret2
      all_goals exact ⟨ret_ib (by simp [wv, HW.out]) (by have := HX.out; rw [empty_iff] at this; simp [wok, HW.out, this]), fk⟩
    · have hs : p < s.size := by omega
      have hc := HA.out _ (byte_in s p hs)
      have hn := fun ty => next_some (P := Tryz.prog) ik hs hc ty
      have i2 := ik.set (p + 1)
      have f2 := fr_itset fk (Or.inl (Nat.le_refl _)) s (p + 1)
      have M2 : Hid (itPos (itSet wr w.heap.size s (p + 1)) w.heap.size = p + 1) := i2.pos
      have I2 : Hid (It (itSet wr w.heap.size s (p + 1)) w.heap.size s (p + 1)) := i2
      have hw2 := take_one s p hs
      obtain ⟨c, hcc⟩ : ∃ c, s[p]'hs = c := ⟨_, rfl⟩
      rw [hcc] at hn hc hw2
      have hb2 := dix_bd b HB.out c
      have HW : Hid (worthF b (s.data.toList.take p) 0 = some n) := hw
      have HT : Hid (s.data.toList.take (p + 1) = s.data.toList.take p ++ [c]) := hw2
      have hnb : n ≤ 4294967296 := worth_le b _ _ _ (by omega) hw
      have HP : Hid (p < s.size) := hs
      have hI := fun w' => Tryz.strings_IndexRune_ascii (digB b) (c.toNat : Int) w' (by omega) (by omega)
      have hq : Lib.indexByte (digB b).data.toList (c.toNat : Int).toNat.toUInt8 = dix b c := by
        unfold dix digB
        rcases HB.out with rfl | rfl
        · simp; rfl
        · simp; rfl
      rw [hq] at hI
      have M1 := M
      clear hq hcc hw2 hw hs he hp ik fk M i2
      obtain ⟨d, hd⟩ : ∃ d, dix b c = d := ⟨_, rfl⟩
      rw [hd] at hI hb2
      have HD : Hid (dix b c = d) := hd
      clear hd hc
      unfold digB at hI
      by_cases h0 : d < 0
      · have t0 : decide (d < 0) = true := by simpa using h0
        go_wp2_with (go_at_call 95; refine (hI _).mono ?_; rintro e w1 ⟨rfl, rfl⟩)
        all_goals go_ret2
        all_goals
          have hnone : worthF b s.data.toList 0 = none := by
            rw [← List.take_append_drop (p + 1) s.data.toList, HT.out, worth_app, worth_app, HW.out]
            simp [worthF, HD.out, h0]
          exact ⟨ret_ib (by simp [wv, hnone]) (by simp [wok, hnone]), f2⟩
      · have t0 : decide (d < 0) = false := by simpa using h0
        go_wp2_with (go_at_call 95; refine (hI _).mono ?_; rintro e w1 ⟨rfl, rfl⟩)
        all_goals go_roundw
        case rel =>
          refine ⟨p + 1, min (n * b + d.toNat) 4294967296, by have := HP.out; omega, ?_, ?_, f2, I2.out⟩
          · rw [HT.out, worth_app, HW.out]
            simp [worthF, HD.out, h0]
          · have e1 : ∃ x : Nat, n * b = x ∧ x ≤ 68719476736 := by
              rcases HB.out with rfl | rfl
              · exact ⟨_, rfl, by omega⟩
              · exact ⟨_, rfl, by omega⟩
            obtain ⟨x, hx, hx2⟩ := e1
            have e2 : (n : Int) * (b : Int) = (x : Int) := by rw [← hx]; simp
            rw [hx, e2, w64_id (x := (x : Int)) (by omega) (by omega), w64_id (by omega) (by omega)]
            congr 1
            omega
        case measure => rw [M2.out, M1.out]; have := HP.out; omega

set_option maxHeartbeats 800000 in
theorem alldig_any (s : ByteArray) (ha : ∀ c ∈ s.data.toList, c.toNat < 128) (w : World) :
    Calls Tryz.prog 93 #[.string s] w fun e w' => e = .returned (.bool (s.data.toList.all isDig && !s.data.toList.isEmpty)) ∧ Fr none' w w' := by
  have HA : Hid (∀ c ∈ s.data.toList, c.toNat < 128) := ha
  clear ha
  go_enter Tryz.func93, Tryz.ntmps93
  go_wp2_with fail
  go_loopw [] (fun wr => ∃ p : Nat, p ≤ s.size ∧ (s.data.toList.take p).all isDig = true ∧ Fr none' w wr ∧ It wr w.heap.size s p) (fun wr => s.size - itPos wr w.heap.size)
  case atStart => exact ⟨0, by omega, rfl, (Fr.refl _ _).alloc _, it_new w s⟩
  case round =>
    obtain ⟨p, hp, hw, fk, ik⟩ := hrel
    have M : Hid (itPos wr w.heap.size = p) := ik.pos
    by_cases he : p = s.size
    · subst he
      rw [take_all] at hw
      have HW : Hid (s.data.toList.all isDig = true) := hw
      have hn := fun ty => next_none (P := Tryz.prog) ik (by omega) ty
      obtain ⟨x, hx⟩ : ∃ x, s.toList.isEmpty = x := ⟨_, rfl⟩
      have HX : Hid (s.toList.isEmpty = x) := hx
      clear hp hw ik M
      cases x
      all_goals go_wp2
      all_goals go_ret
      all_goals exact ⟨ret_bool (by have := HX.out; rw [empty_iff] at this; rw [HW.out, this]; rfl), fk⟩
    · have hs : p < s.size := by omega
      have hc := HA.out _ (byte_in s p hs)
      have hn := fun ty => next_some (P := Tryz.prog) ik hs hc ty
      have i2 := ik.set (p + 1)
      have f2 := fr_itset fk (Or.inl (Nat.le_refl _)) s (p + 1)
      have M2 : Hid (itPos (itSet wr w.heap.size s (p + 1)) w.heap.size = p + 1) := i2.pos
      have I2 : Hid (It (itSet wr w.heap.size s (p + 1)) w.heap.size s (p + 1)) := i2
      have hw2 := take_one s p hs
      obtain ⟨c, hcc⟩ : ∃ c, s[p]'hs = c := ⟨_, rfl⟩
      rw [hcc] at hn hc hw2
      have HW : Hid ((s.data.toList.take p).all isDig = true) := hw
      have HT : Hid (s.data.toList.take (p + 1) = s.data.toList.take p ++ [c]) := hw2
      have HP : Hid (p < s.size) := hs
      have hI := fun w' => isdigit_any (c.toNat : Int) w'
      have hq : (decide (48 ≤ (c.toNat : Int)) && decide ((c.toNat : Int) ≤ 57)) = isDig c := by
        unfold isDig
        congr 1
        · exact decide_eq_decide.2 (by omega)
        · exact decide_eq_decide.2 (by omega)
      rw [hq] at hI
      have M1 := M
      clear hq hcc hw2 hw hs he hp ik fk M i2
      obtain ⟨d, hd⟩ : ∃ d, isDig c = d := ⟨_, rfl⟩
      rw [hd] at hI
      have HD : Hid (isDig c = d) := hd
      clear hd hc
      cases d
      · go_wp2_with (go_at_call 90; refine (hI _).mono ?_; rintro e w1 ⟨rfl, rfl⟩)
        all_goals go_ret
        all_goals
          have hnone : s.data.toList.all isDig = false := by
            rw [← List.take_append_drop (p + 1) s.data.toList, HT.out]
            simp [HD.out]
          exact ⟨ret_bool (by rw [hnone]; rfl), f2⟩
      · go_wp2_with (go_at_call 90; refine (hI _).mono ?_; rintro e w1 ⟨rfl, rfl⟩)
        all_goals go_roundw
        case rel => exact ⟨p + 1, by have := HP.out; omega, by rw [HT.out, List.all_append, HW.out]; simp [HD.out], f2, I2.out⟩
        case measure => rw [M2.out, M1.out]; have := HP.out; omega

/-- Digits in decimal. -/
def dcv (l : List UInt8) : Int := if 1 < l.length ∧ l.head? = some 48 then 0 else wv 10 l
def dco (l : List UInt8) : Bool := if 1 < l.length ∧ l.head? = some 48 then false else wok 10 l

theorem has_zero (s : ByteArray) (h : 1 < s.data.toList.length) : Lib.hasPrefix s.data.toList [48] = decide (s.data.toList.head? = some 48) := by
  unfold Lib.hasPrefix
  cases hl : s.data.toList with
  | nil => rw [hl] at h; simp at h
  | cons a r =>
    by_cases h48 : a = 48
    · subst h48; simp [List.isPrefixOf]
    · simp [List.isPrefixOf, h48, Ne.symm h48]

set_option maxHeartbeats 800000 in
theorem decimal_any (s : ByteArray) (ha : ∀ c ∈ s.data.toList, c.toNat < 128) (w : World) :
    Calls Tryz.prog 94 #[.string s] w fun e w' => e = .returned (.tuple #[.int .i64 (dcv s.data.toList), .bool (dco s.data.toList)]) ∧ Fr none' w w' := by
  have hW := fun w => worth_any s 10 (Or.inl rfl) ha w
  have hP := fun w => Tryz.strings_HasPrefix s { data := #[48] } w
  have hl : s.size = s.data.toList.length := Lib.size_eq s
  clear ha
  by_cases h1 : 1 < s.size
  · have hz := has_zero s (by omega)
    have t1 : decide ((s.size : Int) > 1) = true := by simp; omega
    by_cases h0 : s.data.toList.head? = some 48
    · have hd : Lib.hasPrefix s.data.toList [48] = true := by rw [hz]; simpa using h0
      have e1 : dcv s.data.toList = 0 := by unfold dcv; rw [if_pos ⟨by omega, h0⟩]
      have e2 : dco s.data.toList = false := by unfold dco; rw [if_pos ⟨by omega, h0⟩]
      rw [e1, e2]
      have hP' : ∀ w, Calls Tryz.prog 56 #[.string s, .string { data := #[48] }] w fun e w' => e = .returned (.bool true) ∧ w' = w := fun w => by have := hP w; rw [show ({ data := #[48] } : ByteArray).data.toList = [48] from rfl, hd] at this; exact this
      clear hP hz h0 hd e1 e2 hl h1
      go_enter Tryz.func94, Tryz.ntmps94
      go_wp2_with (first | (go_at_call 56; refine (hP' _).mono ?_; rintro e w1 ⟨rfl, rfl⟩))
      go_ret2
      exact ⟨rfl, Fr.refl _ _⟩
    · have hd : Lib.hasPrefix s.data.toList [48] = false := by rw [hz]; simpa using h0
      have e1 : dcv s.data.toList = wv 10 s.data.toList := by unfold dcv; rw [if_neg (fun h => h0 h.2)]
      have e2 : dco s.data.toList = wok 10 s.data.toList := by unfold dco; rw [if_neg (fun h => h0 h.2)]
      rw [e1, e2]
      have hP' : ∀ w, Calls Tryz.prog 56 #[.string s, .string { data := #[48] }] w fun e w' => e = .returned (.bool false) ∧ w' = w := fun w => by have := hP w; rw [show ({ data := #[48] } : ByteArray).data.toList = [48] from rfl, hd] at this; exact this
      clear hP hz h0 hd e1 e2 hl h1
      go_enter Tryz.func94, Tryz.ntmps94
      go_wp2_with (first | (go_at_call 56; refine (hP' _).mono ?_; rintro e w1 ⟨rfl, rfl⟩) | (go_at_call 110; refine (hW _).mono ?_; rintro e w1 ⟨rfl, f1⟩))
      go_ret2
      exact ⟨rfl, f1⟩
  · have t1 : decide ((s.size : Int) > 1) = false := by simp; omega
    have e1 : dcv s.data.toList = wv 10 s.data.toList := by unfold dcv; rw [if_neg (fun h => by omega)]
    have e2 : dco s.data.toList = wok 10 s.data.toList := by unfold dco; rw [if_neg (fun h => by omega)]
    rw [e1, e2]
    clear hP e1 e2 hl h1
    go_enter Tryz.func94, Tryz.ntmps94
    go_wp2_with (first | (go_at_call 110; refine (hW _).mono ?_; rintro e w1 ⟨rfl, f1⟩))
    go_ret2
    exact ⟨rfl, f1⟩

end Go.Proofs.YtecipogfdhpjfaaGreatDoor
