/-
  Sources made of lines, and what becomes of them: labels, jumps, wrong lines among right ones: plain facts. No program, no statement.
-/
import Derived.Test.YtecipogfdhpjfaaGreatDoorAsmBackP
namespace Go.Proofs.YtecipogfdhpjfaaGreatDoor
open Go.RowKit

/-- Lines, each with its end, and a last one without. -/
def joinL (ls : List (List UInt8)) (last : List UInt8) : List UInt8 := ls.flatMap (fun s => s ++ [10]) ++ last
def No10 (s : List UInt8) : Prop := ∀ c ∈ s, c ≠ 10

theorem join_nil (last : List UInt8) : joinL [] last = last := rfl
theorem join_cons (s : List UInt8) (ls : List (List UInt8)) (last : List UInt8) : joinL (s :: ls) last = s ++ 10 :: joinL ls last := by simp [joinL]
theorem join_append (a b : List (List UInt8)) (last : List UInt8) : joinL (a ++ b) last = joinL a [] ++ joinL b last := by simp [joinL]

theorem split_one {a : List UInt8} (h : No10 a) (r : List UInt8) : splitB (a ++ 10 :: r) = a :: splitB r := by
  induction a with
  | nil => rfl
  | cons c a ih =>
    have hc : ¬ c = 10 := h c (by simp)
    have := ih (fun d hd => h d (by simp [hd]))
    rw [List.cons_append, show splitB (c :: (a ++ 10 :: r)) = (if c = 10 then [] :: splitB (a ++ 10 :: r) else match splitB (a ++ 10 :: r) with | [] => [[c]] | x :: xs => (c :: x) :: xs) from rfl, if_neg hc, this]
theorem split_last {a : List UInt8} (h : No10 a) : splitB a = [a] := by
  induction a with
  | nil => rfl
  | cons c a ih =>
    have hc : ¬ c = 10 := h c (by simp)
    have := ih (fun d hd => h d (by simp [hd]))
    rw [show splitB (c :: a) = (if c = 10 then [] :: splitB a else match splitB a with | [] => [[c]] | x :: xs => (c :: x) :: xs) from rfl, if_neg hc, this]
theorem split_join : ∀ (ls : List (List UInt8)) (last : List UInt8), (∀ s ∈ ls, No10 s) → No10 last → splitB (joinL ls last) = ls ++ [last]
  | [], last, _, hl => split_last hl
  | s :: ls, last, h, hl => by
    rw [join_cons, split_one (h s (by simp)), split_join ls last (fun t ht => h t (by simp [ht])) hl]
    rfl

theorem first_append : ∀ (a b : List (List UInt8)) (n : Nat), (∀ s ∈ a, (lineT s).1 = 0) → firstE (a ++ b) n = firstE b (n + a.length)
  | [], b, n, _ => by simp
  | s :: a, b, n, h => by
    rw [List.cons_append]
    unfold firstE
    rw [if_neg (by simp [h s (by simp)]), first_append a b (n + 1) (fun t ht => h t (by simp [ht]))]
    cases b with
    | nil => simp [firstE]
    | cons x b =>
      rw [show n + (s :: a).length = n + 1 + a.length by simp; omega]
      rfl
theorem first_none {a : List (List UInt8)} (n : Nat) (h : ∀ s ∈ a, (lineT s).1 = 0) : firstE a n = none := by
  have := first_append a [] n h
  rw [List.append_nil] at this
  rw [this]
  rfl

theorem lines_append (a b : List (List UInt8)) : linesT (a ++ b) = linesT a ++ linesT b := by simp [linesT]
theorem lines_rep (n : Nat) (s : List UInt8) : linesT (List.replicate n s) = List.replicate n (lineT s).2 := by simp [linesT]

theorem twice_append : ∀ (a b : List Ln6) (seen : List (List UInt8)) (n : Nat), (∀ x ∈ a, x.lab = []) → twiceE seen (a ++ b) n = twiceE (List.replicate a.length [] ++ seen) b (n + a.length)
  | [], b, seen, n, _ => by simp
  | x :: a, b, seen, n, h => by
    have hx := h x (by simp)
    rw [List.cons_append, twiceE, if_neg (by simp [hx]), twice_append a b _ (n + 1) (fun y hy => h y (by simp [hy])), hx]
    congr 1
    · rw [List.length_cons, List.replicate_succ']
      simp
    · simp; omega

/-- What a line adds to the words. -/
def addsT (all : List Ln6) (base : Nat) (x : Ln6) : Option (List Int) := if x.k = 0 then some [] else if x.k = 2 then some [(x.n : Int)] else (immT all base x).map (fun v => [encW x.o x.a x.b x.c v])

theorem words_step (all : List Ln6) (base : Nat) (x : Ln6) (r : List Ln6) (n : Nat) (out : List Int) : wordsT all base (x :: r) n out = match addsT all base x with | some ws => wordsT all base r (n + 1) (out ++ ws) | none => .error n := by
  rw [wordsT]
  unfold addsT
  by_cases h0 : x.k = 0
  · simp [h0]
  · by_cases h2 : x.k = 2
    · simp [h2]
    · rw [if_neg h0, if_neg h2, if_neg h0, if_neg h2]
      cases immT all base x <;> rfl

theorem words_run (all : List Ln6) (base : Nat) (g : Ln6 → List Int) : ∀ (a b : List Ln6) (n : Nat) (out : List Int), (∀ x ∈ a, addsT all base x = some (g x)) → wordsT all base (a ++ b) n out = wordsT all base b (n + a.length) (out ++ a.flatMap g)
  | [], b, n, out, _ => by simp
  | x :: a, b, n, out, h => by
    rw [List.cons_append, words_step, h x (by simp)]
    show wordsT all base (a ++ b) (n + 1) (out ++ g x) = _
    rw [words_run all base g a b (n + 1) _ (fun y hy => h y (by simp [hy]))]
    rw [show n + 1 + a.length = n + (x :: a).length by simp; omega]
    simp
theorem words_all (all : List Ln6) (base : Nat) (g : Ln6 → List Int) (a : List Ln6) (n : Nat) (out : List Int) (h : ∀ x ∈ a, addsT all base x = some (g x)) : wordsT all base a n out = .ok (out ++ a.flatMap g) := by
  have := words_run all base g a [] n out h
  rw [List.append_nil] at this
  rw [this]
  rfl

theorem addr_append (lab : List UInt8) : ∀ (a b : List Ln6) (at_ : Nat), (∀ x ∈ a, x.lab ≠ lab) → addrT lab (a ++ b) at_ = addrT lab b (at_ + 4 * (a.filter (fun x => x.k != 0)).length)
  | [], b, at_, _ => by simp
  | x :: a, b, at_, h => by
    rw [List.cons_append, addrT, if_neg (h x (by simp)), addr_append lab a b _ (fun y hy => h y (by simp [hy]))]
    by_cases hk : x.k = 0
    · simp [hk]
    · simp [hk]
      congr 1
      omega

/-- A source all of whose lines are right, no label twice, no name wrong. -/
theorem asm_fine {base : Int} (h0 : 0 ≤ base) (h1 : base ≤ 65535) {ls : List (List UInt8)} {last : List UInt8} (hn : ∀ s ∈ ls, No10 s) (hl : No10 last) (hlen : (joinL ls last).length ≤ 4000)
    (hf : ∀ s ∈ ls ++ [last], (lineT s).1 = 0) (ht : twiceE [] (linesT (ls ++ [last])) 1 = none) {g : Ln6 → List Int} (hw : ∀ x ∈ linesT (ls ++ [last]), addsT (linesT (ls ++ [last])) base.toNat x = some (g x)) :
    asmT base (joinL ls last) = ⟨(linesT (ls ++ [last])).flatMap g, 0, 0⟩ := by
  unfold asmT
  rw [if_neg (by omega), if_neg (by omega), split_join ls last hn hl, first_none 1 hf]
  simp only [ht, words_all _ _ g _ 1 [] hw, List.nil_append]

/-- A source whose first wrong line is told. -/
theorem asm_wrong {base : Int} (h0 : 0 ≤ base) (h1 : base ≤ 65535) {a : List (List UInt8)} {s : List UInt8} {b : List (List UInt8)} {last : List UInt8} (hn : ∀ t ∈ a ++ s :: b, No10 t) (hl : No10 last) (hlen : (joinL (a ++ s :: b) last).length ≤ 4000)
    (hf : ∀ t ∈ a, (lineT t).1 = 0) (he : (lineT s).1 ≠ 0) : asmT base (joinL (a ++ s :: b) last) = ⟨[], a.length + 1, (lineT s).1⟩ := by
  unfold asmT
  rw [if_neg (by omega), if_neg (by omega), split_join _ last hn hl, List.append_assoc, first_append a _ 1 hf]
  rw [show firstE (s :: b ++ [last]) (1 + a.length) = some (1 + a.length, (lineT s).1) by rw [List.cons_append, firstE, if_pos he]]
  simp only [Nat.add_comm]

def nopB : List UInt8 := [110, 111, 112]
def nopL : Ln6 := ⟨[], 1, 25, 0, 0, 0, 0, [], 0⟩
theorem nop_line : lineT nopB = (0, nopL) := by decide +kernel
theorem nop_ten : No10 nopB := by unfold No10; decide
theorem nil_line : lineT [] = (0, ⟨[], 0, 0, 0, 0, 0, 0, [], 0⟩) := by decide +kernel
theorem nil_ten : No10 [] := by unfold No10; decide
theorem nop_adds (all : List Ln6) (base : Nat) : addsT all base nopL = some [419430400] := by
  unfold addsT
  rw [if_neg (by decide), if_neg (by decide), show immT all base nopL = some 0 from rfl]
  show some [encW 25 0 0 0 0] = _
  rw [show encW 25 0 0 0 0 = 419430400 by decide +kernel]

theorem mem_rep {n : Nat} {a b : List UInt8} (h : b ∈ List.replicate n a) : b = a := List.eq_of_mem_replicate h
theorem len_rep (n : Nat) (s : List UInt8) : (joinL (List.replicate n s) []).length = n * (s.length + 1) := by
  induction n with
  | zero => simp [joinL]
  | succ n ih => rw [List.replicate_succ, join_cons, List.length_append, List.length_cons, ih, Nat.succ_mul]; omega

end Go.Proofs.YtecipogfdhpjfaaGreatDoor
