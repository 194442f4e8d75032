/-
  The sources of the laws on labels, bases, wrong lines and labels that are there twice, and what becomes of them: plain facts. No program, no statement.
-/
import Derived.Test.YtecipogfdhpjfaaGreatDoorAsmSrc
namespace Go.Proofs.YtecipogfdhpjfaaGreatDoor
open Go.RowKit

def hereN : List UInt8 := [104, 101, 114, 101]
def hereB : List UInt8 := [104, 101, 114, 101, 58]
def jmpHB : List UInt8 := [106, 109, 112, 32, 104, 101, 114, 101]
def jalHB : List UInt8 := [106, 97, 108, 32, 114, 51, 44, 32, 104, 101, 114, 101]
def hereJ : List UInt8 := [104, 101, 114, 101, 58, 32] ++ jmpHB

theorem here_line : lineT hereB = (0, ⟨hereN, 0, 0, 0, 0, 0, 0, [], 0⟩) := by decide +kernel
theorem jmp_line : lineT jmpHB = (0, ⟨[], 1, 14, 0, 0, 0, 0, hereN, 0⟩) := by decide +kernel
theorem jal_line : lineT jalHB = (0, ⟨[], 1, 15, 3, 0, 0, 0, hereN, 0⟩) := by decide +kernel
theorem hereJ_line : lineT hereJ = (0, ⟨hereN, 1, 14, 0, 0, 0, 0, hereN, 0⟩) := by decide +kernel

/-- The source of AsmLabels: its lines but the last. -/
def labL (many at_ : Nat) : List (List UInt8) := if at_ < many then List.replicate at_ nopB ++ hereB :: (List.replicate (many - at_) nopB ++ [jmpHB]) else List.replicate many nopB ++ [hereJ]

theorem filter_nop (n : Nat) : ((List.replicate n nopL).filter (fun x => x.k != 0)).length = n := by
  rw [List.filter_replicate, if_pos (by decide), List.length_replicate]

/-- What a jump to 'here' adds. -/
def gLab (v : Int) (x : Ln6) : List Int := if x = nopL then [419430400] else if x.k = 0 then [] else [encW x.o x.a x.b x.c v]

theorem flat_nop (v : Int) (n : Nat) : (List.replicate n nopL).flatMap (gLab v) = List.replicate n 419430400 := by
  induction n with
  | zero => rfl
  | succ n ih => rw [List.replicate_succ, List.flatMap_cons, ih, List.replicate_succ]; rfl

theorem imm_here {all : List Ln6} {base v : Nat} {x : Ln6} (hx : x.nm = hereN) (ha : addrT hereN all base = some v) (hv : v ≤ 65535) : immT all base x = some (v : Int) := by
  unfold immT
  rw [if_neg (by rw [hx]; decide), hx, ha]
  simp only []
  rw [if_neg (by omega)]

theorem len_lab (many at_ : Nat) (hm : many ≤ 100) (ha : at_ ≤ many) : (joinL (labL many at_) jalHB).length ≤ 4000 := by
  have e : ∀ l, (joinL l jalHB).length = (joinL l []).length + 12 := fun l => by simp [joinL, jalHB]
  have l1 := len_rep at_ nopB
  have l2 := len_rep (many - at_) nopB
  have l3 := len_rep many nopB
  rw [show nopB.length + 1 = 4 from rfl] at l1 l2 l3
  rw [e]
  unfold labL
  split
  · rw [join_append, join_cons, join_append, List.length_append, List.length_append, List.length_cons, List.length_append, l1, l2]
    have : (joinL [jmpHB] []).length = 9 := rfl
    have : hereB.length = 5 := rfl
    omega
  · rw [join_append, List.length_append, l3]
    have : (joinL [hereJ] []).length = 15 := rfl
    omega

theorem labels_pure (base : Int) (h0 : 0 ≤ base) (h1 : base ≤ 60000) (many at_ : Nat) (hm : many ≤ 100) (ha : at_ ≤ many) :
    asmT base (joinL (labL many at_) jalHB) = ⟨List.replicate many 419430400 ++ [encW 14 0 0 0 (base + 4 * at_), encW 15 3 0 0 (base + 4 * at_)], 0, 0⟩ := by
  have hlen := len_lab many at_ hm ha
  by_cases hlt : at_ < many
  · have eL : labL many at_ = List.replicate at_ nopB ++ hereB :: (List.replicate (many - at_) nopB ++ [jmpHB]) := by unfold labL; rw [if_pos hlt]
    have eT : linesT (labL many at_ ++ [jalHB]) = List.replicate at_ nopL ++ ⟨hereN, 0, 0, 0, 0, 0, 0, [], 0⟩ :: (List.replicate (many - at_) nopL ++ [⟨[], 1, 14, 0, 0, 0, 0, hereN, 0⟩, ⟨[], 1, 15, 3, 0, 0, 0, hereN, 0⟩]) := by
      rw [eL]
      simp only [linesT, List.map_append, List.map_cons, List.map_replicate, List.map_nil, nop_line, here_line, jmp_line, jal_line, List.append_assoc, List.cons_append, List.nil_append]
    have ad : addrT hereN (linesT (labL many at_ ++ [jalHB])) base.toNat = some (base.toNat + 4 * at_) := by
      rw [eT, addr_append hereN _ _ _ (fun x hx => by rw [List.eq_of_mem_replicate hx]; decide), filter_nop, addrT, if_pos rfl]
    have fin := asm_fine (base := base) (ls := labL many at_) (last := jalHB) (g := gLab (base + 4 * at_)) h0 (by omega)
      (by
        rw [eL]
        intro s hs
        rw [List.mem_append, List.mem_cons, List.mem_append, List.mem_singleton] at hs
        rcases hs with hs | rfl | hs | rfl
        · rw [mem_rep hs]; exact nop_ten
        · unfold No10; decide
        · rw [mem_rep hs]; exact nop_ten
        · unfold No10; decide)
      (by unfold No10; decide) hlen
      (by
        rw [eL]
        intro s hs
        rw [List.mem_append, List.mem_append, List.mem_cons, List.mem_append, List.mem_singleton, List.mem_singleton] at hs
        rcases hs with (hs | rfl | hs | rfl) | rfl
        · rw [mem_rep hs, nop_line]
        · rw [here_line]
        · rw [mem_rep hs, nop_line]
        · rw [jmp_line]
        · rw [jal_line])
      (by
        rw [eT, twice_append _ _ [] 1 (fun x hx => by rw [List.eq_of_mem_replicate hx]; rfl), twiceE, if_neg (by
          rintro ⟨_, h⟩
          rw [List.append_nil] at h
          exact absurd (List.eq_of_mem_replicate h) (by decide))]
        exact twice_none _ _ _ (fun x hx => by
          rw [List.mem_append] at hx
          rcases hx with hx | hx
          · rw [List.eq_of_mem_replicate hx]; rfl
          · simp only [List.mem_cons, List.not_mem_nil, or_false] at hx
            rcases hx with rfl | rfl <;> rfl))
      (by
        intro x hx
        rw [eT, List.mem_append, List.mem_cons, List.mem_append] at hx
        rcases hx with hx | rfl | hx | hx
        · rw [List.eq_of_mem_replicate hx]; exact nop_adds _ _
        · rfl
        · rw [List.eq_of_mem_replicate hx]; exact nop_adds _ _
        · simp only [List.mem_cons, List.not_mem_nil, or_false] at hx
          rcases hx with rfl | rfl
          · unfold addsT
            rw [if_neg (by decide), if_neg (by decide), imm_here rfl ad (by omega)]
            show some [encW 14 0 0 0 _] = some [encW 14 0 0 0 _]
            rw [show (((base.toNat + 4 * at_ : Nat)) : Int) = base + 4 * at_ by omega]
          · unfold addsT
            rw [if_neg (by decide), if_neg (by decide), imm_here rfl ad (by omega)]
            show some [encW 15 3 0 0 _] = some [encW 15 3 0 0 _]
            rw [show (((base.toNat + 4 * at_ : Nat)) : Int) = base + 4 * at_ by omega])
    rw [fin, eT, List.flatMap_append, List.flatMap_cons, List.flatMap_append, flat_nop, flat_nop]
    show Asm.mk (List.replicate at_ 419430400 ++ ([] ++ (List.replicate (many - at_) 419430400 ++ [encW 14 0 0 0 (base + 4 * at_), encW 15 3 0 0 (base + 4 * at_)]))) 0 0 = _
    rw [List.nil_append, ← List.append_assoc, List.replicate_append_replicate, show at_ + (many - at_) = many by omega]
  · obtain rfl : at_ = many := by omega
    have eL : labL at_ at_ = List.replicate at_ nopB ++ [hereJ] := by unfold labL; rw [if_neg hlt]
    have eT : linesT (labL at_ at_ ++ [jalHB]) = List.replicate at_ nopL ++ [⟨hereN, 1, 14, 0, 0, 0, 0, hereN, 0⟩, ⟨[], 1, 15, 3, 0, 0, 0, hereN, 0⟩] := by
      rw [eL]
      simp only [linesT, List.map_append, List.map_cons, List.map_replicate, List.map_nil, nop_line, hereJ_line, jal_line, List.append_assoc, List.cons_append, List.nil_append]
    have ad : addrT hereN (linesT (labL at_ at_ ++ [jalHB])) base.toNat = some (base.toNat + 4 * at_) := by
      rw [eT, addr_append hereN _ _ _ (fun x hx => by rw [List.eq_of_mem_replicate hx]; decide), filter_nop, addrT, if_pos rfl]
    have fin := asm_fine (base := base) (ls := labL at_ at_) (last := jalHB) (g := gLab (base + 4 * at_)) h0 (by omega)
      (by
        rw [eL]
        intro s hs
        rw [List.mem_append, List.mem_singleton] at hs
        rcases hs with hs | rfl
        · rw [mem_rep hs]; exact nop_ten
        · unfold No10; decide)
      (by unfold No10; decide) hlen
      (by
        rw [eL]
        intro s hs
        rw [List.mem_append, List.mem_append, List.mem_singleton, List.mem_singleton] at hs
        rcases hs with (hs | rfl) | rfl
        · rw [mem_rep hs, nop_line]
        · rw [hereJ_line]
        · rw [jal_line])
      (by
        rw [eT, twice_append _ _ [] 1 (fun x hx => by rw [List.eq_of_mem_replicate hx]; rfl), twiceE, if_neg (by
          rintro ⟨_, h⟩
          rw [List.append_nil] at h
          exact absurd (List.eq_of_mem_replicate h) (by decide))]
        exact twice_none _ _ _ (fun x hx => by
          simp only [List.mem_cons, List.not_mem_nil, or_false] at hx
          subst hx
          rfl))
      (by
        intro x hx
        rw [eT, List.mem_append] at hx
        rcases hx with hx | hx
        · rw [List.eq_of_mem_replicate hx]; exact nop_adds _ _
        · simp only [List.mem_cons, List.not_mem_nil, or_false] at hx
          rcases hx with rfl | rfl
          · unfold addsT
            rw [if_neg (by decide), if_neg (by decide), imm_here rfl ad (by omega)]
            show some [encW 14 0 0 0 _] = some [encW 14 0 0 0 _]
            rw [show (((base.toNat + 4 * at_ : Nat)) : Int) = base + 4 * at_ by omega]
          · unfold addsT
            rw [if_neg (by decide), if_neg (by decide), imm_here rfl ad (by omega)]
            show some [encW 15 3 0 0 _] = some [encW 15 3 0 0 _]
            rw [show (((base.toNat + 4 * at_ : Nat)) : Int) = base + 4 * at_ by omega])
    rw [fin, eT, List.flatMap_append, flat_nop]
    rfl

/-! Bases -/

def firstN : List UInt8 := [102, 105, 114, 115, 116]
def firstB : List UInt8 := [102, 105, 114, 115, 116, 58]
def jmpFB : List UInt8 := [106, 109, 112, 32, 102, 105, 114, 115, 116]
theorem firstB_line : lineT firstB = (0, ⟨firstN, 0, 0, 0, 0, 0, 0, [], 0⟩) := by decide +kernel
theorem jmpF_line : lineT jmpFB = (0, ⟨[], 1, 14, 0, 0, 0, 0, firstN, 0⟩) := by decide +kernel

def twoL (many : Nat) : List (List UInt8) := (List.replicate many [nopB, jmpFB]).flatten
def baseL (many : Nat) : List (List UInt8) := firstB :: twoL many

theorem two_succ (many : Nat) : twoL (many + 1) = nopB :: jmpFB :: twoL many := by
  unfold twoL
  rw [List.replicate_succ, List.flatten_cons]
  rfl
theorem two_mem {many : Nat} {s : List UInt8} (h : s ∈ twoL many) : s = nopB ∨ s = jmpFB := by
  unfold twoL at h
  rw [List.mem_flatten] at h
  obtain ⟨l, hl, hs⟩ := h
  rw [List.eq_of_mem_replicate hl] at hs
  simpa using hs
theorem two_len (many : Nat) : (joinL (twoL many) []).length = many * 14 := by
  induction many with
  | zero => rfl
  | succ n ih =>
    rw [two_succ, join_cons, join_cons]
    simp only [List.length_append, List.length_cons, ih]
    have : nopB.length = 3 := rfl
    have : jmpFB.length = 9 := rfl
    omega

def gBase (v : Int) (x : Ln6) : List Int := if x = nopL then [419430400] else if x.k = 0 then [] else [encW x.o x.a x.b x.c v]
def baseW (v : Int) (many : Nat) : List Int := (List.replicate many [419430400, encW 14 0 0 0 v]).flatten
theorem two_words (v : Int) (many : Nat) : (linesT (twoL many)).flatMap (gBase v) = baseW v many := by
  induction many with
  | zero => rfl
  | succ n ih =>
    rw [two_succ]
    show ((lineT nopB).2 :: (lineT jmpFB).2 :: linesT (twoL n)).flatMap (gBase v) = _
    rw [nop_line, jmpF_line, List.flatMap_cons, List.flatMap_cons, ih]
    unfold baseW
    rw [List.replicate_succ, List.flatten_cons]
    rfl

theorem base_pure (base : Int) (h0 : 0 ≤ base) (h1 : base ≤ 60000) (many : Nat) (hm : many ≤ 60) : asmT base (joinL (baseL many) []) = ⟨baseW base many, 0, 0⟩ := by
  have hlen : (joinL (baseL many) []).length ≤ 4000 := by
    unfold baseL
    rw [join_cons, List.length_append, List.length_cons, two_len]
    have : firstB.length = 6 := rfl
    omega
  have eT : linesT (baseL many ++ [[]]) = ⟨firstN, 0, 0, 0, 0, 0, 0, [], 0⟩ :: (linesT (twoL many) ++ [⟨[], 0, 0, 0, 0, 0, 0, [], 0⟩]) := by
    show (lineT firstB).2 :: linesT (twoL many ++ [[]]) = _
    rw [firstB_line, lines_append]
    show _ :: (linesT (twoL many) ++ [(lineT []).2]) = _
    rw [nil_line]
  have two_ln : ∀ x ∈ linesT (twoL many), x = nopL ∨ x = ⟨[], 1, 14, 0, 0, 0, 0, firstN, 0⟩ := fun x hx => by
    unfold linesT at hx
    rw [List.mem_map] at hx
    obtain ⟨s, hs, rfl⟩ := hx
    rcases two_mem hs with rfl | rfl
    · rw [nop_line]; exact Or.inl rfl
    · rw [jmpF_line]; exact Or.inr rfl
  have ad : addrT firstN (linesT (baseL many ++ [[]])) base.toNat = some base.toNat := by rw [eT, addrT, if_pos rfl]
  have fin := asm_fine (base := base) (ls := baseL many) (last := []) (g := gBase base) h0 (by omega)
    (by
      intro s hs
      unfold baseL at hs
      rw [List.mem_cons] at hs
      rcases hs with rfl | hs
      · unfold No10; decide
      · rcases two_mem hs with rfl | rfl <;> (unfold No10; decide))
    nil_ten hlen
    (by
      intro s hs
      unfold baseL at hs
      rw [List.mem_append, List.mem_cons, List.mem_singleton] at hs
      rcases hs with (rfl | hs) | rfl
      · rw [firstB_line]
      · rcases two_mem hs with rfl | rfl
        · rw [nop_line]
        · rw [jmpF_line]
      · rw [nil_line])
    (by
      rw [eT, twiceE, if_neg (by simp)]
      exact twice_none _ _ _ (fun x hx => by
        rw [List.mem_append, List.mem_singleton] at hx
        rcases hx with hx | rfl
        · rcases two_ln x hx with rfl | rfl <;> rfl
        · rfl))
    (by
      intro x hx
      rw [eT, List.mem_cons, List.mem_append, List.mem_singleton] at hx
      rcases hx with rfl | hx | rfl
      · rfl
      · rcases two_ln x hx with rfl | rfl
        · exact nop_adds _ _
        · unfold addsT
          rw [if_neg (by decide), if_neg (by decide)]
          have : immT (linesT (baseL many ++ [[]])) base.toNat ⟨[], 1, 14, 0, 0, 0, 0, firstN, 0⟩ = some base := by
            unfold immT
            rw [if_neg (by decide), ad]
            simp only []
            rw [if_neg (by omega), show ((base.toNat : Nat) : Int) = base by omega]
          rw [this]
          rfl
      · rfl)
  rw [fin, eT, List.flatMap_cons, List.flatMap_append, two_words]
  show Asm.mk ([] ++ (baseW base many ++ [])) 0 0 = _
  simp

/-! One wrong line -/

def fineB : List UInt8 := [110, 111, 112, 32, 59, 32, 102, 105, 110, 101]
theorem fine_line : lineT fineB = (0, nopL) := by decide +kernel

theorem wrong_pure {s : List UInt8} {e : Nat} (hs : No10 s) (hl : s.length ≤ 40) (he : (lineT s).1 = e) (hne : e ≠ 0) (many at_ : Nat) (hm : many ≤ 100) (ha : at_ ≤ many) :
    asmT 0 (joinL (List.replicate at_ fineB ++ s :: List.replicate (many - at_) fineB) []) = ⟨[], at_ + 1, e⟩ := by
  have l1 := len_rep at_ fineB
  have l2 := len_rep (many - at_) fineB
  rw [show fineB.length + 1 = 11 from rfl] at l1 l2
  have := asm_wrong (base := 0) (a := List.replicate at_ fineB) (s := s) (b := List.replicate (many - at_) fineB) (last := []) (by omega) (by omega)
    (by
      intro t ht
      rw [List.mem_append, List.mem_cons] at ht
      rcases ht with ht | rfl | ht
      · rw [mem_rep ht]; unfold No10; decide
      · exact hs
      · rw [mem_rep ht]; unfold No10; decide)
    nil_ten
    (by rw [join_append, join_cons, List.length_append, List.length_append, List.length_cons, l1, l2]; omega)
    (fun t ht => by rw [mem_rep ht, fine_line]) (by rw [he]; exact hne)
  rw [this, he, List.length_replicate]

def awayN : List UInt8 := [97, 119, 97, 121]
def awayB : List UInt8 := [106, 109, 112, 32, 97, 119, 97, 121]
theorem away_line : lineT awayB = (0, ⟨[], 1, 14, 0, 0, 0, 0, awayN, 0⟩) := by decide +kernel
theorem addr_none (lab : List UInt8) (h : lab ≠ []) : ∀ (l : List Ln6) (b : Nat), (∀ x ∈ l, x.lab = []) → addrT lab l b = none
  | [], _, _ => rfl
  | x :: l, b, hx => by
    rw [addrT, if_neg (by rw [hx x (by simp)]; exact fun e => h e.symm)]
    exact addr_none lab h l _ (fun y hy => hx y (by simp [hy]))

theorem away_pure (many at_ : Nat) (hm : many ≤ 100) (ha : at_ ≤ many) :
    asmT 0 (joinL (List.replicate at_ fineB ++ awayB :: List.replicate (many - at_) fineB) []) = ⟨[], at_ + 1, 62⟩ := by
  have l1 := len_rep at_ fineB
  have l2 := len_rep (many - at_) fineB
  rw [show fineB.length + 1 = 11 from rfl] at l1 l2
  have hlen : (joinL (List.replicate at_ fineB ++ awayB :: List.replicate (many - at_) fineB) []).length ≤ 4000 := by
    rw [join_append, join_cons, List.length_append, List.length_append, List.length_cons, l1, l2]
    have : awayB.length = 8 := rfl
    omega
  have eT : linesT ((List.replicate at_ fineB ++ awayB :: List.replicate (many - at_) fineB) ++ [[]]) = List.replicate at_ nopL ++ ⟨[], 1, 14, 0, 0, 0, 0, awayN, 0⟩ :: (List.replicate (many - at_) nopL ++ [⟨[], 0, 0, 0, 0, 0, 0, [], 0⟩]) := by
    simp only [linesT, List.map_append, List.map_cons, List.map_replicate, List.map_nil, fine_line, away_line, nil_line, List.append_assoc, List.cons_append]
  have hlab : ∀ x ∈ linesT ((List.replicate at_ fineB ++ awayB :: List.replicate (many - at_) fineB) ++ [[]]), x.lab = [] := fun x hx => by
    rw [eT, List.mem_append, List.mem_cons, List.mem_append, List.mem_singleton] at hx
    rcases hx with hx | rfl | hx | rfl
    · rw [List.eq_of_mem_replicate hx]; rfl
    · rfl
    · rw [List.eq_of_mem_replicate hx]; rfl
    · rfl
  unfold asmT
  rw [if_neg (by omega), if_neg (by omega), split_join _ [] (by
      intro t ht
      rw [List.mem_append, List.mem_cons] at ht
      rcases ht with ht | rfl | ht
      · rw [mem_rep ht]; unfold No10; decide
      · unfold No10; decide
      · rw [mem_rep ht]; unfold No10; decide) nil_ten, first_none 1 (by
      intro t ht
      rw [List.mem_append, List.mem_append, List.mem_cons, List.mem_singleton] at ht
      rcases ht with (ht | rfl | ht) | rfl
      · rw [mem_rep ht, fine_line]
      · rw [away_line]
      · rw [mem_rep ht, fine_line]
      · rw [nil_line])]
  simp only [twice_none _ [] 1 hlab]
  have an := addr_none awayN (by decide) _ (0 : Int).toNat hlab
  obtain ⟨all, hall⟩ : ∃ all, all = linesT ((List.replicate at_ fineB ++ awayB :: List.replicate (many - at_) fineB) ++ [[]]) := ⟨_, rfl⟩
  rw [← hall] at an ⊢
  have key : wordsT all (0 : Int).toNat all 1 [] = .error (at_ + 1) := by
    conv => lhs; arg 3; rw [hall, eT]
    rw [words_run all _ (fun _ => [419430400]) _ _ 1 [] (fun x hx => by rw [List.eq_of_mem_replicate hx]; exact nop_adds _ _), words_step]
    have : addsT all (0 : Int).toNat ⟨[], 1, 14, 0, 0, 0, 0, awayN, 0⟩ = none := by
      unfold addsT
      rw [if_neg (by decide), if_neg (by decide)]
      unfold immT
      rw [if_neg (by decide), an]
      rfl
    rw [this, List.length_replicate]
    show Except.error (1 + at_) = Except.error (at_ + 1)
    rw [Nat.add_comm]
  rw [key]

/-! A label twice -/

theorem twice_pure {lab nm : List UInt8} (hl : lineT lab = (0, ⟨nm, 1, 25, 0, 0, 0, 0, [], 0⟩)) (hne : nm ≠ []) (ht : No10 lab) (hlen : lab.length ≤ 20) (many f s : Nat) (hm : many ≤ 100) (hf : f < s) (hs : s < many) :
    asmT 0 (joinL (List.replicate f nopB ++ lab :: (List.replicate (s - f - 1) nopB ++ lab :: List.replicate (many - s - 1) nopB)) []) = ⟨[], s + 1, 62⟩ := by
  have l1 := len_rep f nopB
  have l2 := len_rep (s - f - 1) nopB
  have l3 := len_rep (many - s - 1) nopB
  rw [show nopB.length + 1 = 4 from rfl] at l1 l2 l3
  have hlen2 : (joinL (List.replicate f nopB ++ lab :: (List.replicate (s - f - 1) nopB ++ lab :: List.replicate (many - s - 1) nopB)) []).length ≤ 4000 := by
    rw [join_append, join_cons, join_append, join_cons, List.length_append, List.length_append, List.length_cons, List.length_append, List.length_append, List.length_cons, l1, l2, l3]
    omega
  have eT : linesT ((List.replicate f nopB ++ lab :: (List.replicate (s - f - 1) nopB ++ lab :: List.replicate (many - s - 1) nopB)) ++ [[]]) = List.replicate f nopL ++ ⟨nm, 1, 25, 0, 0, 0, 0, [], 0⟩ :: (List.replicate (s - f - 1) nopL ++ ⟨nm, 1, 25, 0, 0, 0, 0, [], 0⟩ :: (List.replicate (many - s - 1) nopL ++ [⟨[], 0, 0, 0, 0, 0, 0, [], 0⟩])) := by
    simp only [linesT, List.map_append, List.map_cons, List.map_replicate, List.map_nil, nop_line, hl, nil_line, List.append_assoc, List.cons_append]
  unfold asmT
  rw [if_neg (by omega), if_neg (by omega), split_join _ [] (by
      intro t h
      rw [List.mem_append, List.mem_cons, List.mem_append, List.mem_cons] at h
      rcases h with h | rfl | h | rfl | h
      · rw [mem_rep h]; exact nop_ten
      · exact ht
      · rw [mem_rep h]; exact nop_ten
      · exact ht
      · rw [mem_rep h]; exact nop_ten) nil_ten, first_none 1 (by
      intro t h
      rw [List.mem_append, List.mem_append, List.mem_cons, List.mem_append, List.mem_cons, List.mem_singleton] at h
      rcases h with (h | rfl | h | rfl | h) | rfl
      · rw [mem_rep h, nop_line]
      · rw [hl]
      · rw [mem_rep h, nop_line]
      · rw [hl]
      · rw [mem_rep h, nop_line]
      · rw [nil_line])]
  have key : twiceE [] (linesT ((List.replicate f nopB ++ lab :: (List.replicate (s - f - 1) nopB ++ lab :: List.replicate (many - s - 1) nopB)) ++ [[]])) 1 = some (s + 1) := by
    rw [eT, twice_append _ _ [] 1 (fun x hx => by rw [List.eq_of_mem_replicate hx]; rfl), twiceE, if_neg (by
      rintro ⟨_, h⟩
      rw [List.append_nil] at h
      exact hne (List.eq_of_mem_replicate h)), twice_append _ _ _ _ (fun x hx => by rw [List.eq_of_mem_replicate hx]; rfl), twiceE, if_pos ⟨hne, by simp⟩]
    simp only [List.length_replicate]
    congr 1
    omega
  simp only [key]

theorem once_pure {lab nm : List UInt8} (hl : lineT lab = (0, ⟨nm, 1, 25, 0, 0, 0, 0, [], 0⟩)) (hne : nm ≠ []) (ht : No10 lab) (hlen : lab.length ≤ 20) (many f : Nat) (hm : many ≤ 100) (hf : f < many) :
    ∃ ws, asmT 0 (joinL (List.replicate f nopB ++ lab :: List.replicate (many - f - 1) nopB) []) = ⟨ws, 0, 0⟩ ∧ ws.length = many := by
  have l1 := len_rep f nopB
  have l2 := len_rep (many - f - 1) nopB
  rw [show nopB.length + 1 = 4 from rfl] at l1 l2
  have hlen2 : (joinL (List.replicate f nopB ++ lab :: List.replicate (many - f - 1) nopB) []).length ≤ 4000 := by
    rw [join_append, join_cons, List.length_append, List.length_append, List.length_cons, l1, l2]
    omega
  have eT : linesT ((List.replicate f nopB ++ lab :: List.replicate (many - f - 1) nopB) ++ [[]]) = List.replicate f nopL ++ ⟨nm, 1, 25, 0, 0, 0, 0, [], 0⟩ :: (List.replicate (many - f - 1) nopL ++ [⟨[], 0, 0, 0, 0, 0, 0, [], 0⟩]) := by
    simp only [linesT, List.map_append, List.map_cons, List.map_replicate, List.map_nil, nop_line, hl, nil_line, List.append_assoc, List.cons_append]
  have fin := asm_fine (base := 0) (ls := List.replicate f nopB ++ lab :: List.replicate (many - f - 1) nopB) (last := []) (g := fun x => if x.k = 0 then [] else [419430400]) (by omega) (by omega)
    (by
      intro t h
      rw [List.mem_append, List.mem_cons] at h
      rcases h with h | rfl | h
      · rw [mem_rep h]; exact nop_ten
      · exact ht
      · rw [mem_rep h]; exact nop_ten) nil_ten hlen2
    (by
      intro t h
      rw [List.mem_append, List.mem_append, List.mem_cons, List.mem_singleton] at h
      rcases h with (h | rfl | h) | rfl
      · rw [mem_rep h, nop_line]
      · rw [hl]
      · rw [mem_rep h, nop_line]
      · rw [nil_line])
    (by
      rw [eT, twice_append _ _ [] 1 (fun x hx => by rw [List.eq_of_mem_replicate hx]; rfl), twiceE, if_neg (by
        rintro ⟨_, h⟩
        rw [List.append_nil] at h
        exact hne (List.eq_of_mem_replicate h))]
      exact twice_none _ _ _ (fun x hx => by
        rw [List.mem_append, List.mem_singleton] at hx
        rcases hx with hx | rfl
        · rw [List.eq_of_mem_replicate hx]; rfl
        · rfl))
    (by
      intro x hx
      rw [eT, List.mem_append, List.mem_cons, List.mem_append, List.mem_singleton] at hx
      rcases hx with hx | rfl | hx | rfl
      · rw [List.eq_of_mem_replicate hx]; exact nop_adds _ _
      · unfold addsT
        rw [if_neg (by simp), if_neg (by simp)]
        show some [encW 25 0 0 0 0] = some [419430400]
        rw [show encW 25 0 0 0 0 = 419430400 by decide +kernel]
      · rw [List.eq_of_mem_replicate hx]; exact nop_adds _ _
      · rfl)
  refine ⟨_, fin, ?_⟩
  have rep : ∀ n, ((List.replicate n nopL).flatMap (fun x : Ln6 => if x.k = 0 then [] else [(419430400 : Int)])).length = n := fun n => by
    induction n with
    | zero => rfl
    | succ n ih => rw [List.replicate_succ, List.flatMap_cons, List.length_append, ih]; show 1 + n = n + 1; omega
  rw [eT, List.flatMap_append, List.flatMap_cons, List.flatMap_append, List.length_append, List.length_append, List.length_append, rep, rep]
  show f + (1 + (many - f - 1 + 0)) = many
  omega

end Go.Proofs.YtecipogfdhpjfaaGreatDoor
