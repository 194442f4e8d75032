/-
  A source that was printed becomes the words that were printed: plain facts. No program, no statement.
-/
import Derived.Test.YtecipogfdhpjfaaGreatDoorAsmIns
namespace Go.Proofs.YtecipogfdhpjfaaGreatDoor
open Go.RowKit

theorem ins_line {o a b c i : Int} (h : rightI o a b c i = true) : Pr (insB o a b c i) ∧ lineT (insB o a b c i) = (0, ⟨[], 1, o, a, b, c, i, [], 0⟩) := by
  obtain ⟨ho, ha, hb, hc, hi, _⟩ := right_bounds h
  obtain ⟨_, fa, fb, fc, fi⟩ := right_parts h
  rcases op_cases ho with rfl | rfl | rfl | rfl | rfl | rfl | rfl | rfl | rfl | rfl | rfl | rfl | rfl | rfl | rfl | rfl | rfl | rfl | rfl | rfl | rfl | rfl | rfl | rfl | rfl
  · obtain rfl : b = 0 := fld_no.1 fb; obtain rfl : c = 0 := fld_no.1 fc
    exact line_1 a i ha hi
  · obtain rfl : i = 0 := fld_no.1 fi
    exact line_2 a b c ha hb hc
  · obtain rfl : i = 0 := fld_no.1 fi
    exact line_3 a b c ha hb hc
  · obtain rfl : i = 0 := fld_no.1 fi
    exact line_4 a b c ha hb hc
  · obtain rfl : i = 0 := fld_no.1 fi
    exact line_5 a b c ha hb hc
  · obtain rfl : i = 0 := fld_no.1 fi
    exact line_6 a b c ha hb hc
  · obtain rfl : c = 0 := fld_no.1 fc
    exact line_7 a b i ha hb hi
  · obtain rfl : c = 0 := fld_no.1 fc
    exact line_8 a b i ha hb hi
  · obtain rfl : c = 0 := fld_no.1 fc
    exact line_9 a b i ha hb hi
  · obtain rfl : c = 0 := fld_no.1 fc
    exact line_10 a b i ha hb hi
  · obtain rfl : c = 0 := fld_no.1 fc
    exact line_11 a b i ha hb hi
  · obtain rfl : c = 0 := fld_no.1 fc
    exact line_12 a b i ha hb hi
  · obtain rfl : c = 0 := fld_no.1 fc
    exact line_13 a b i ha hb hi
  · obtain rfl : a = 0 := fld_no.1 fa; obtain rfl : b = 0 := fld_no.1 fb; obtain rfl : c = 0 := fld_no.1 fc
    exact line_14 i hi
  · obtain rfl : b = 0 := fld_no.1 fb; obtain rfl : c = 0 := fld_no.1 fc
    exact line_15 a i ha hi
  · obtain rfl : a = 0 := fld_no.1 fa; obtain rfl : c = 0 := fld_no.1 fc; obtain rfl : i = 0 := fld_no.1 fi
    exact line_16 b hb
  · obtain rfl : a = 0 := fld_no.1 fa; obtain rfl : b = 0 := fld_no.1 fb; obtain rfl : c = 0 := fld_no.1 fc
    exact line_17 i hi
  · obtain rfl : a = 0 := fld_no.1 fa; obtain rfl : b = 0 := fld_no.1 fb; obtain rfl : c = 0 := fld_no.1 fc
    exact line_18 i hi
  · obtain rfl : b = 0 := fld_no.1 fb; obtain rfl : c = 0 := fld_no.1 fc
    exact line_19 a i ha hi
  · obtain rfl : a = 0 := fld_no.1 fa; obtain rfl : c = 0 := fld_no.1 fc
    exact line_20 b i hb hi
  · obtain rfl : a = 0 := fld_no.1 fa; obtain rfl : b = 0 := fld_no.1 fb; obtain rfl : c = 0 := fld_no.1 fc; obtain rfl : i = 0 := fld_no.1 fi
    exact line_21  
  · obtain rfl : b = 0 := fld_no.1 fb; obtain rfl : c = 0 := fld_no.1 fc; obtain rfl : i = 0 := fld_no.1 fi
    exact line_22 a ha
  · obtain rfl : a = 0 := fld_no.1 fa; obtain rfl : c = 0 := fld_no.1 fc; obtain rfl : i = 0 := fld_no.1 fi
    exact line_23 b hb
  · obtain rfl : a = 0 := fld_no.1 fa; obtain rfl : b = 0 := fld_no.1 fb; obtain rfl : c = 0 := fld_no.1 fc; obtain rfl : i = 0 := fld_no.1 fi
    exact line_24  
  · obtain rfl : a = 0 := fld_no.1 fa; obtain rfl : b = 0 := fld_no.1 fb; obtain rfl : c = 0 := fld_no.1 fc; obtain rfl : i = 0 := fld_no.1 fi
    exact line_25  

theorem hex_digit (d : Nat) (h : d < 16) : hexD (hexB d) = some d ∧ isWrd (hexB d) = true := by
  have : d = 0 ∨ d = 1 ∨ d = 2 ∨ d = 3 ∨ d = 4 ∨ d = 5 ∨ d = 6 ∨ d = 7 ∨ d = 8 ∨ d = 9 ∨ d = 10 ∨ d = 11 ∨ d = 12 ∨ d = 13 ∨ d = 14 ∨ d = 15 := by omega
  rcases this with rfl | rfl | rfl | rfl | rfl | rfl | rfl | rfl | rfl | rfl | rfl | rfl | rfl | rfl | rfl | rfl <;> decide +kernel

theorem raw_line (w : Nat) (hw : w < 4294967296) : Pr (rawB w) ∧ lineT (rawB w) = (0, ⟨[], 2, 0, 0, 0, 0, 0, [], w⟩) := by
  obtain ⟨h0, g0⟩ := hex_digit (w / 268435456 % 16) (by omega)
  obtain ⟨h1, g1⟩ := hex_digit (w / 16777216 % 16) (by omega)
  obtain ⟨h2, g2⟩ := hex_digit (w / 1048576 % 16) (by omega)
  obtain ⟨h3, g3⟩ := hex_digit (w / 65536 % 16) (by omega)
  obtain ⟨h4, g4⟩ := hex_digit (w / 4096 % 16) (by omega)
  obtain ⟨h5, g5⟩ := hex_digit (w / 256 % 16) (by omega)
  obtain ⟨h6, g6⟩ := hex_digit (w / 16 % 16) (by omega)
  obtain ⟨h7, g7⟩ := hex_digit (w % 16) (by omega)
  have hm : ∀ c ∈ wordB, isWrd c = true := by decide
  obtain ⟨z, hz⟩ : ∃ z, z = [hexB (w / 268435456 % 16), hexB (w / 16777216 % 16), hexB (w / 1048576 % 16), hexB (w / 65536 % 16), hexB (w / 4096 % 16), hexB (w / 256 % 16), hexB (w / 16 % 16), hexB (w % 16)] := ⟨_, rfl⟩
  have hn : ∀ c ∈ (48 :: 120 :: z), isWrd c = true := by
    intro c hc
    rw [hz] at hc
    simp only [List.mem_cons, List.not_mem_nil, or_false] at hc
    rcases hc with rfl | rfl | rfl | rfl | rfl | rfl | rfl | rfl | rfl | rfl
    · decide
    · decide
    all_goals assumption
  have e : rawB w = wordB ++ 32 :: (48 :: 120 :: z) := by rw [hz]; rfl
  have p : Pr (rawB w) := by rw [e]; exact (pr_word hm).app ((pr_word hn).cons (by decide))
  have hx : hexT z = some w := by
    unfold hexT
    rw [if_neg (by rw [hz]; simp), hz]
    simp only [hexN, h0, h1, h2, h3, h4, h5, h6, h7]
    congr 1
    omega
  have ht : wordT (48 :: 120 :: z) = some (Tok.num w) := by
    show (hexT z).map Tok.num = _
    rw [hx]
    rfl
  refine ⟨p, ?_⟩
  unfold lineT
  rw [cut_of (fun c hc => (p c hc).1) (l := [Tok.nm wordB, Tok.num w]) (by
    rw [e, word_blank (t := Tok.nm wordB) hm (by decide +kernel) (by decide), word_end hn ht (by simp)]
    rfl)]
  have ho : opOf wordB = -1 := by decide +kernel
  simp only [readT, itemT, ho]
  rw [if_neg (by omega), if_pos (by omega), if_neg (by omega)]

/-- The line of a printed word: nothing but that word. -/
theorem print_line (w : Nat) (hw : w < 4294967296) : Pr (printL w) ∧ ∃ x : Ln6, lineT (printL w) = (0, x) ∧ x.lab = [] ∧ x.nm = [] ∧ ((x.k = 2 ∧ x.n = w) ∨ (x.k = 1 ∧ encW x.o x.a x.b x.c x.i = (w : Int))) := by
  unfold printL
  cases h : decOk w
  · obtain ⟨p, q⟩ := raw_line w hw
    exact ⟨p, _, q, rfl, rfl, Or.inl ⟨rfl, rfl⟩⟩
  · obtain ⟨p, q⟩ := ins_line (ok_right h)
    refine ⟨p, _, q, rfl, rfl, Or.inr ⟨rfl, ?_⟩⟩
    show encW (qo w) (qa w) (qb w) (qc w) (qi w) = _
    unfold encW
    rw [ok_right h, ok_word h]
    rfl

theorem split_ne (s : List UInt8) : splitB s ≠ [] := by
  cases s with
  | nil => simp [splitB]
  | cons c r =>
    unfold splitB
    split
    · simp
    · split <;> simp

theorem split_line {a : List UInt8} (h : Pr a) (r : List UInt8) : splitB (a ++ 10 :: r) = a :: splitB r := by
  induction a with
  | nil => rfl
  | cons c a ih =>
    have hc : ¬ c = 10 := by have := (h c (by simp)).2; simpa using this
    have := ih (fun d hd => h d (by simp [hd]))
    rw [List.cons_append, show splitB (c :: (a ++ 10 :: r)) = (if c = 10 then [] :: splitB (a ++ 10 :: r) else match splitB (a ++ 10 :: r) with | [] => [[c]] | x :: xs => (c :: x) :: xs) from rfl, if_neg hc, this]

theorem split_print : ∀ ws : List Nat, (∀ w ∈ ws, w < 4294967296) → splitB (printB ws) = ws.map printL ++ [[]]
  | [], _ => rfl
  | w :: ws, h => by
    have e : printB (w :: ws) = printL w ++ 10 :: printB ws := by simp [printB]
    rw [e, split_line (print_line w (h w (by simp))).1, split_print ws (fun v hv => h v (by simp [hv]))]
    rfl

theorem first_print : ∀ (ws : List Nat) (n : Nat), (∀ w ∈ ws, w < 4294967296) → firstE (ws.map printL ++ [[]]) n = none
  | [], n, _ => by
    show (if (lineT []).1 ≠ 0 then _ else _) = _
    rw [if_neg (by decide +kernel)]
    rfl
  | w :: ws, n, h => by
    obtain ⟨_, x, e, _⟩ := print_line w (h w (by simp))
    show (if (lineT (printL w)).1 ≠ 0 then _ else _) = _
    rw [e]
    simp only [ne_eq, not_true_eq_false, if_false]
    exact first_print ws (n + 1) (fun v hv => h v (by simp [hv]))

theorem twice_none : ∀ (l : List Ln6) (seen : List (List UInt8)) (n : Nat), (∀ x ∈ l, x.lab = []) → twiceE seen l n = none
  | [], _, _, _ => rfl
  | x :: l, seen, n, h => by
    unfold twiceE
    rw [if_neg (by simp [h x (by simp)])]
    exact twice_none l _ _ (fun y hy => h y (by simp [hy]))

theorem words_print (all : List Ln6) (base : Nat) : ∀ (ws : List Nat) (n : Nat) (out : List Int), (∀ w ∈ ws, w < 4294967296) → wordsT all base (linesT (ws.map printL ++ [[]])) n out = .ok (out ++ ws.map (fun (w : Nat) => (w : Int)))
  | [], n, out, _ => by
    show wordsT all base [(lineT []).2] n out = _
    have : (lineT []).2 = ⟨[], 0, 0, 0, 0, 0, 0, [], 0⟩ := by decide +kernel
    rw [this]
    simp [wordsT]
  | w :: ws, n, out, h => by
    obtain ⟨_, x, e, _, h2, h3⟩ := print_line w (h w (by simp))
    show wordsT all base ((lineT (printL w)).2 :: linesT (ws.map printL ++ [[]])) n out = _
    rw [e]
    have ih := words_print all base ws (n + 1) (out ++ [(w : Int)]) (fun v hv => h v (by simp [hv]))
    unfold wordsT
    rcases h3 with ⟨hk, hn⟩ | ⟨hk, hn⟩
    · rw [if_neg (by simp [hk]), if_pos (by simp [hk])]
      simp only [hn]
      rw [ih]
      simp
    · rw [if_neg (by simp [hk]), if_neg (by simp [hk])]
      have : immT all base x = some x.i := by unfold immT; rw [if_pos h2]
      simp only [this, hn]
      rw [ih]
      simp

/-- Words that were printed come back, wherever they lie. -/
theorem asm_print (base : Int) (h0 : 0 ≤ base) (h1 : base ≤ 65535) (ws : List Nat) (h : ∀ w ∈ ws, w < 4294967296) (hl : (printB ws).length ≤ 4000) : asmT base (printB ws) = ⟨ws.map (fun (w : Nat) => (w : Int)), 0, 0⟩ := by
  unfold asmT
  rw [if_neg (by omega), if_neg (by omega), split_print ws h, first_print ws 1 h]
  have hlab : ∀ x ∈ linesT (ws.map printL ++ [[]]), x.lab = [] := by
    intro x hx
    unfold linesT at hx
    rw [List.mem_map] at hx
    obtain ⟨s, hs, rfl⟩ := hx
    rw [List.mem_append, List.mem_map] at hs
    rcases hs with ⟨w, hw, rfl⟩ | hs
    · obtain ⟨_, x, e, hx, _⟩ := print_line w (h w hw)
      rw [e]; exact hx
    · rw [List.mem_singleton] at hs
      subst hs
      decide +kernel
  simp only [twice_none _ [] 1 hlab, words_print _ _ ws 1 [] h, List.nil_append]

theorem dec_len (n : Nat) (h : n ≤ 65535) : (decB n).length ≤ 5 := by
  have l1 : ∀ k, k < 10 → (decB k).length = 1 := fun k hk => by rw [decB, dif_pos hk]; rfl
  have up : ∀ k m, ¬ k < 10 → (decB (k / 10)).length ≤ m → (decB k).length ≤ m + 1 := fun k m hk hm => by rw [decB, dif_neg hk]; simp; omega
  by_cases a : n < 10
  · have := l1 n a; omega
  refine up n 4 a ?_
  by_cases b : n / 10 < 10
  · have := l1 _ b; omega
  refine up _ 3 b ?_
  by_cases c : n / 10 / 10 < 10
  · have := l1 _ c; omega
  refine up _ 2 c ?_
  by_cases d : n / 10 / 10 / 10 < 10
  · have := l1 _ d; omega
  refine up _ 1 d ?_
  have := l1 (n / 10 / 10 / 10 / 10) (by omega)
  omega

theorem reg_len (n : Int) (h0 : 0 ≤ n) (h : n ≤ 15) : (regB n).length ≤ 3 := by
  have : n = 0 ∨ n = 1 ∨ n = 2 ∨ n = 3 ∨ n = 4 ∨ n = 5 ∨ n = 6 ∨ n = 7 ∨ n = 8 ∨ n = 9 ∨ n = 10 ∨ n = 11 ∨ n = 12 ∨ n = 13 ∨ n = 14 ∨ n = 15 := by omega
  rcases this with rfl | rfl | rfl | rfl | rfl | rfl | rfl | rfl | rfl | rfl | rfl | rfl | rfl | rfl | rfl | rfl <;> decide +kernel

end Go.Proofs.YtecipogfdhpjfaaGreatDoor
