/-
  The library's own words against the assembler's: pieces of a text, what stands ahead of a remark, decimal digits, the mnemonics as fields of one text. No program, no statement.
-/
import Derived.Test.YtecipogfdhpjfaaGreatDoorAsmBackP
import Derived.Test.YtecipogfdhpjfaaGreatDoorAsmSrc
import Derived.Lib.SplitLaws
import Derived.Lib.CutLaws
import Derived.Lib.ItoaNum
import Derived.Lib.Fields
import Derived.Lib.SlicesS
import Derived.Lib.Join
import Derived.Lib.Explode
import Derived.Lib.Repeat
namespace Go.Proofs.YtecipogfdhpjfaaGreatDoor
open Go.RowKit

theorem dec_eq (n : Nat) : Lib.decDigits n = decB n := by
  induction n using Nat.strongRecOn with
  | _ n ih =>
    rw [Lib.decDigits, decB]
    split
    · rfl
    · rw [ih (n / 10) (by omega)]

theorem tw_index (c : UInt8) : ∀ s : List UInt8, s.takeWhile (fun x => x != c) = if 0 ≤ Lib.indexByte s c then s.take (Lib.indexByte s c).toNat else s
  | [] => by simp
  | b :: l => by
    have ih := tw_index c l
    have hg := Lib.indexByte_ge l c
    rw [List.takeWhile_cons]
    unfold Lib.indexByte
    by_cases h : b = c
    · subst h
      simp
    · have h1 : (b == c) = false := by simpa using h
      have h2 : (b != c) = true := by simpa using h
      simp only [h1, h2, Bool.false_eq_true, if_false, if_true]
      rw [ih]
      by_cases hm : Lib.indexByte l c = -1
      · simp [hm]
      · have h3 : (Lib.indexByte l c == -1) = false := by simpa using hm
        simp only [h3, Bool.false_eq_true, if_false]
        rw [if_pos (by omega), if_pos (by omega), show (Lib.indexByte l c + 1).toNat = (Lib.indexByte l c).toNat + 1 by omega, List.take_succ_cons]

theorem cut_code (s : List UInt8) : (Lib.cut s [59]).1 = code s := by
  unfold Lib.cut code
  rw [Lib.index_one, tw_index]
  split <;> rfl

theorem splitK_eq : ∀ (n : Nat) (s : List UInt8), s.length ≤ n → Lib.splitK [10] 0 (Lib.count s [10]) s = splitB s
  | n, s, hn => by
    by_cases hm : Lib.index s [10] = -1
    · rw [Lib.count_miss hm, split_last (a := s)]
      · rfl
      · intro c hc e
        subst e
        rw [Lib.index_one] at hm
        obtain ⟨k, hk⟩ := List.getElem?_of_mem hc
        exact Lib.indexByte_none hm k hk
    · have hge := Lib.index_ge s [10]
      obtain ⟨j, hj⟩ : ∃ j : Nat, Lib.index s [10] = j := ⟨(Lib.index s [10]).toNat, by omega⟩
      have hb : Lib.indexByte s 10 = j := by rw [← Lib.index_one]; exact hj
      obtain ⟨hs1, hs2⟩ := Lib.indexByte_some hb
      have hl : j < s.length := by
        rcases Nat.lt_or_ge j s.length with h | h
        · exact h
        · rw [List.getElem?_eq_none h] at hs1; cases hs1
      have es : s = s.take j ++ 10 :: s.drop (j + 1) := by
        conv => lhs; rw [← List.take_append_drop j s]
        rw [List.drop_eq_getElem_cons hl]
        have : s[j] = 10 := by rw [List.getElem?_eq_getElem hl] at hs1; exact Option.some.inj hs1
        rw [this]
      match n, hn with
      | 0, hn => omega
      | n + 1, hn =>
        have ih := splitK_eq n (s.drop (j + 1)) (by rw [List.length_drop]; omega)
        rw [Lib.count_hit (by simp) hj]
        conv => rhs; rw [es]
        rw [split_one (a := s.take j)]
        · rw [Nat.add_comm 1 _, Lib.splitK]
          have h3 : ¬ (Lib.index s [10] == -1) = true := by simpa using hm
          rw [if_neg h3, hj, ← ih]
          simp
        · intro c hc e
          subst e
          obtain ⟨k, hk⟩ := List.getElem?_of_mem hc
          rw [List.getElem?_take] at hk
          split at hk
          · exact hs2 k (by assumption) hk
          · cases hk

theorem split_eq (s : ByteArray) : (Lib.splitB ⟨#[10]⟩ 0 (Lib.countB s ⟨#[10]⟩) s).map (·.data.toList) = splitB s.data.toList := by
  rw [Lib.splitB_data]
  exact splitK_eq _ _ (Nat.le_refl _)

def mnTxt : List UInt8 := wordB ++ mnemo.flatMap (fun s => 32 :: s)
theorem fields_mn : Lib.fields mnTxt = wordB :: mnemo := by decide +kernel

/-- The program's number of an operation: 0 a plain word's, -1 none. -/
def opP (s : List UInt8) : Int := if opOf s = -1 then 0 else if opOf s = 0 then -1 else opOf s

end Go.Proofs.YtecipogfdhpjfaaGreatDoor
