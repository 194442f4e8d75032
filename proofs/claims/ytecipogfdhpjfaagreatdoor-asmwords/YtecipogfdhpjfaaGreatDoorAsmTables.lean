/-
  The wrong lines and the names that the laws set, as plain facts; how long a printed line is. No program, no statement.
-/
import Derived.Test.YtecipogfdhpjfaaGreatDoorAsmLawsP
namespace Go.Proofs.YtecipogfdhpjfaaGreatDoor
open Go.RowKit

/-- The wrong lines, and their errors. -/
def wrongL : List (List UInt8) := [[109, 111, 118, 105, 32, 114, 49, 44, 32, 82],
  [110, 111, 112, 32, 110, 111, 112],
  [109, 111, 118, 105, 32, 114, 49, 54, 44, 32, 48],
  [106, 109, 112, 32, 97, 119, 97, 121],
  [109, 111, 118, 105, 32, 114, 49, 54, 32, 48],
  [110, 111, 112, 58, 32, 110, 111, 112],
  [97, 98, 99, 100, 101, 102, 103, 104, 105, 106, 107, 108, 109, 58, 32, 110, 111, 112],
  [109, 111, 118, 105, 32, 114, 49, 44, 32, 48, 48, 49, 50],
  [109, 111, 118, 105, 32, 114, 48, 48, 49, 50, 44, 32, 49],
  [109, 111, 118, 105, 32, 114, 49, 44, 32, 55, 48, 48, 48, 48],
  [119, 111, 114, 100, 32, 52, 50, 57, 52, 57, 54, 55, 50, 57, 54],
  [108, 100, 114, 32, 114, 49, 44, 32, 91, 114, 50, 93],
  [98, 101, 113, 32, 114, 49, 44, 32, 114, 50],
  [109, 111, 118, 105, 32, 114, 49, 44, 32, 48, 120, 49, 50, 51, 52, 53, 54, 55, 56, 57],
  [119, 111, 114, 100, 32, 120],
  [106, 109, 112, 32, 114, 49]]
def wrongE : List Nat := [60, 61, 63, 62, 61, 61, 60, 60, 60, 63, 63, 61, 61, 60, 61, 61]
def wrongB (k : Nat) : List UInt8 := wrongL.getD k []
def wrongN (k : Nat) : Nat := wrongE.getD k 0

theorem wrong_says : ∀ k : Fin 16, k.val = 3 ∨ ((lineT (wrongB k.val)).1 = wrongN k.val ∧ wrongN k.val ≠ 0) := by decide +kernel
theorem wrong_len : ∀ k : Fin 16, (wrongB k.val).length ≤ 40 := by decide +kernel
theorem wrong_ten : ∀ k : Fin 16, ∀ c ∈ wrongB k.val, c ≠ 10 := by decide +kernel

/-- Of right lines with one wrong line among them, that line is told. -/
theorem first_pure (k many at_ : Nat) (hk : k < 16) (hm : many ≤ 100) (ha : at_ ≤ many) :
    asmT 0 (joinL (List.replicate at_ fineB ++ wrongB k :: List.replicate (many - at_) fineB) []) = ⟨[], at_ + 1, wrongN k⟩ := by
  by_cases h3 : k = 3
  · subst h3
    exact away_pure many at_ hm ha
  · rcases wrong_says ⟨k, hk⟩ with h | ⟨h, hn⟩
    · exact absurd h h3
    · exact wrong_pure (wrong_ten ⟨k, hk⟩) (wrong_len ⟨k, hk⟩) h hn many at_ hm ha

/-- The names: the first bytes of twenty letters. -/
def lettersB : List UInt8 := [97, 98, 99, 100, 101, 102, 103, 104, 105, 106, 107, 108, 109, 110, 111, 112, 113, 114, 115, 116]
def nameB (n : Nat) : List UInt8 := lettersB.take n
def nameL (n : Nat) : List UInt8 := nameB n ++ 58 :: 32 :: nopB

theorem name_fine : ∀ n : Fin 21, 1 ≤ n.val → n.val ≤ 12 → lineT (nameL n.val) = (0, ⟨nameB n.val, 1, 25, 0, 0, 0, 0, [], 0⟩) ∧ nameB n.val ≠ [] ∧ (nameL n.val).length ≤ 20 := by decide +kernel
theorem name_long : ∀ n : Fin 21, 12 < n.val → (lineT (nameL n.val)).1 = 60 := by decide +kernel
theorem name_ten : ∀ n : Fin 21, ∀ c ∈ nameL n.val, c ≠ 10 := by decide +kernel
theorem name_len : ∀ n : Fin 21, (nameL n.val).length ≤ 25 := by decide +kernel

/-- A label that stands twice, and one that is too long. -/
theorem names_twice (n many f s : Nat) (h1 : 1 ≤ n) (h12 : n ≤ 12) (hm : many ≤ 100) (hf : f < s) (hs : s < many) :
    asmT 0 (joinL (List.replicate f nopB ++ nameL n :: (List.replicate (s - f - 1) nopB ++ nameL n :: List.replicate (many - s - 1) nopB)) []) = ⟨[], s + 1, 62⟩ := by
  obtain ⟨a, b, c⟩ := name_fine ⟨n, by omega⟩ h1 h12
  exact twice_pure a b (name_ten ⟨n, by omega⟩) c many f s hm hf hs
theorem names_once (n many f : Nat) (h1 : 1 ≤ n) (h12 : n ≤ 12) (hm : many ≤ 100) (hf : f < many) :
    ∃ ws, asmT 0 (joinL (List.replicate f nopB ++ nameL n :: List.replicate (many - f - 1) nopB) []) = ⟨ws, 0, 0⟩ ∧ ws.length = many := by
  obtain ⟨a, b, c⟩ := name_fine ⟨n, by omega⟩ h1 h12
  exact once_pure a b (name_ten ⟨n, by omega⟩) c many f hm hf
theorem names_long (n f : Nat) (b : List (List UInt8)) (h12 : 12 < n) (h20 : n ≤ 20) (hb : ∀ t ∈ b, No10 t) (hl : (joinL b []).length ≤ 3000) (hf : f ≤ 100) :
    asmT 0 (joinL (List.replicate f nopB ++ nameL n :: b) []) = ⟨[], f + 1, 60⟩ := by
  have l1 := len_rep f nopB
  rw [show nopB.length + 1 = 4 from rfl] at l1
  have l2 := name_len ⟨n, by omega⟩
  have e := name_long ⟨n, by omega⟩ h12
  have := asm_wrong (base := 0) (a := List.replicate f nopB) (s := nameL n) (b := b) (last := []) (by omega) (by omega)
    (by
      intro t ht
      rw [List.mem_append, List.mem_cons] at ht
      rcases ht with ht | rfl | ht
      · rw [mem_rep ht]; exact nop_ten
      · exact name_ten ⟨n, by omega⟩
      · exact hb t ht)
    nil_ten
    (by rw [join_append, join_cons, List.length_append, List.length_append, List.length_cons, l1]; simp only at l2; omega)
    (fun t ht => by rw [mem_rep ht, nop_line]) (by rw [e]; decide)
  rw [this, e, List.length_replicate]

/-- An operand's length, by its sign. -/
def operN (s : UInt8) : Nat := if s = 97 ∨ s = 98 ∨ s = 99 then 3 else if s = 105 then 5 else if s = 44 then 2 else if s = 43 then 3 else 1
theorem oper_len {a b c i : Int} (ha : 0 ≤ a ∧ a ≤ 15) (hb : 0 ≤ b ∧ b ≤ 15) (hc : 0 ≤ c ∧ c ≤ 15) (hi : 0 ≤ i ∧ i ≤ 65535) (s : UInt8) : (operB a b c i s).length ≤ operN s := by
  unfold operB operN
  by_cases h1 : s = 97
  · rw [if_pos h1, if_pos (Or.inl h1)]; exact reg_len a ha.1 ha.2
  by_cases h2 : s = 98
  · rw [if_neg h1, if_pos h2, if_pos (Or.inr (Or.inl h2))]; exact reg_len b hb.1 hb.2
  by_cases h3 : s = 99
  · rw [if_neg h1, if_neg h2, if_pos h3, if_pos (Or.inr (Or.inr h3))]; exact reg_len c hc.1 hc.2
  rw [if_neg h1, if_neg h2, if_neg h3, if_neg (show ¬ (s = 97 ∨ s = 98 ∨ s = 99) from by rintro (h | h | h) <;> contradiction)]
  by_cases h4 : s = 105
  · rw [if_pos h4, if_pos h4]; exact dec_len _ (by omega)
  by_cases h5 : s = 44
  · rw [if_neg h4, if_neg h4, if_pos h5, if_pos h5]; decide
  by_cases h6 : s = 43
  · rw [if_neg h4, if_neg h4, if_neg h5, if_neg h5, if_pos h6, if_pos h6]; decide
  rw [if_neg h4, if_neg h4, if_neg h5, if_neg h5, if_neg h6, if_neg h6]; exact Nat.le_refl 1

theorem flat_len {f : UInt8 → List UInt8} {g : UInt8 → Nat} (h : ∀ s, (f s).length ≤ g s) : ∀ l : List UInt8, (l.flatMap f).length ≤ (l.map g).sum
  | [] => by simp
  | c :: l => by
    have a := h c
    have b := flat_len h l
    rw [List.flatMap_cons, List.length_append, List.map_cons, List.sum_cons]
    omega

theorem forms_len : ∀ o : Fin 26, (mnOf (o.val : Int)).length + (1 + ((shapeB (o.val : Int)).map operN).sum) ≤ 23 := by decide +kernel

theorem ins_len {o a b c i : Int} (h : rightI o a b c i = true) : (insB o a b c i).length ≤ 23 := by
  obtain ⟨ho, ha, hb, hc, hi, _⟩ := right_bounds h
  have e := forms_len ⟨o.toNat, by omega⟩
  simp only at e
  rw [show ((o.toNat : Nat) : Int) = o by omega] at e
  have f := flat_len (oper_len ha hb hc hi) (shapeB o)
  unfold insB
  rw [List.length_append]
  split
  · simp; omega
  · rw [List.length_cons]; omega

theorem line_len (w : Nat) : (printL w).length ≤ 23 := by
  unfold printL
  split
  · rename_i h
    exact ins_len (ok_right h)
  · simp [rawB]

theorem print_len : ∀ ws : List Nat, (printB ws).length ≤ 24 * ws.length
  | [] => by simp [printB]
  | w :: ws => by
    have a := line_len w
    have b := print_len ws
    have e : printB (w :: ws) = (printL w ++ [10]) ++ printB ws := by simp [printB]
    rw [e, List.length_append, List.length_append, List.length_cons, List.length_cons, List.length_nil]
    omega

theorem print_app (a b : List Nat) : printB a ++ printB b = printB (a ++ b) := by simp [printB]

end Go.Proofs.YtecipogfdhpjfaaGreatDoor
