/-
  What the plain assembler says of AsmTwice's two texts. No program, no statement.
-/
import Derived.Test.YtiifadnmiambpaaGreatDoorAsmLoops
import Derived.Test.YtiifadnmiambpaaGreatDoorAsmTables
namespace Go.Proofs.YtiifadnmiambpaaGreatDoor
open Go.RowKit

theorem rep_ten (k : Nat) : ∀ t ∈ List.replicate k nopB, No10 t := fun t ht => by rw [List.eq_of_mem_replicate ht]; exact nop_ten
theorem rep_joined (k : Nat) : (joinL (List.replicate k nopB) []).length = k * 4 := len_rep k nopB

theorem twice_short (n many f s : Nat) (h1 : 1 ≤ n) (h12 : n ≤ 12) (hm : many ≤ 100) (hf : f < s) (hs : s < many) : asmT 0 (accB (twiF n f s) many) = ⟨[], s + 1, 62⟩ := by
  rw [twice_built n many f s hf hs]; exact names_twice n many f s h1 h12 hm hf hs
theorem once_short (n many f : Nat) (h1 : 1 ≤ n) (h12 : n ≤ 12) (hm : many ≤ 100) (hf : f < many) : ∃ ws, asmT 0 (accB (oncF n f) many) = ⟨ws, 0, 0⟩ ∧ ws.length = many := by
  rw [once_built n many f hf]; exact names_once n many f h1 h12 hm hf
theorem twice_long (n many f s : Nat) (h12 : 12 < n) (h20 : n ≤ 20) (hm : many ≤ 100) (hf : f < s) (hs : s < many) : asmT 0 (accB (twiF n f s) many) = ⟨[], f + 1, 60⟩ := by
  rw [twice_built n many f s hf hs]
  refine names_long n f _ h12 h20 (fun t ht => ?_) ?_ (by omega)
  · rcases List.mem_append.1 ht with ht | ht
    · exact rep_ten _ t ht
    · rcases List.mem_cons.1 ht with rfl | ht
      · exact name_ten ⟨n, by omega⟩
      · exact rep_ten _ t ht
  · have : (nameL n).length ≤ 25 := name_len ⟨n, by omega⟩
    rw [join_append, join_cons, List.length_append, List.length_append, List.length_cons, rep_joined, rep_joined]
    omega
theorem once_long (n many f : Nat) (h12 : 12 < n) (h20 : n ≤ 20) (hm : many ≤ 100) (hf : f < many) : asmT 0 (accB (oncF n f) many) = ⟨[], f + 1, 60⟩ := by
  rw [once_built n many f hf]
  refine names_long n f _ h12 h20 (rep_ten _) ?_ (by omega)
  rw [rep_joined]; omega

theorem name_size (n : Nat) : (nameB n).length ≤ 20 := by unfold nameB; rw [List.length_take]; have : lettersB.length = 20 := rfl; omega
theorem twi_len (n f s i : Nat) : (twiF n f s i).length ≤ 50 := by
  have := name_size n
  unfold twiF
  simp only [List.length_append]
  have h4 : (nopB ++ [10]).length = 4 := rfl
  simp only [List.length_append] at h4
  split <;> split <;> simp <;> simp [nopB] <;> omega
theorem onc_len (n f i : Nat) : (oncF n f i).length ≤ 50 := by
  have := name_size n
  unfold oncF
  split <;> simp [nopB] <;> omega
theorem acc_len (F : Nat → List UInt8) (h : ∀ i, (F i).length ≤ 50) (k : Nat) : (accB F k).length ≤ 50 * k := by
  induction k with
  | zero => simp [accB]
  | succ n ih => rw [acc_succ, List.length_append]; have := h n; omega

end Go.Proofs.YtiifadnmiambpaaGreatDoor
