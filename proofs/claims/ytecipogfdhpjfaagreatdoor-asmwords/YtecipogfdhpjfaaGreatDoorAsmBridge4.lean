/-
  What the program's steps come to is what the plain assembler says: sources. No program, no statement.
-/
import Derived.Test.YtecipogfdhpjfaaGreatDoorAsmBridge3
namespace Go.Proofs.YtecipogfdhpjfaaGreatDoor
open Go.RowKit

theorem lay_head (op : Int) : (layB op).head? ≠ some 58 := by
  by_cases h : op = 0
  · subst h; decide
  · have : layB op = shapeB op := by unfold layB; rw [if_neg h]
    rw [this]
    exact (shape_alpha op).2.2
theorem colon_no (op : Int) (r : List Tok) : isItT op (Tok.sg 58 :: r) = false := by
  unfold isItT
  cases hl : layB op with
  | nil => simp [fitsL]
  | cons c cs =>
    have hc : ¬ (58 : UInt8) = c := fun e => lay_head op (by rw [hl, ← e]; rfl)
    simp only [fitsL, fit_sg]
    simp [hc]

theorem line_rel (s : List UInt8) : (parseP s).1 = (lineT s).1 ∧ ((lineT s).1 = 0 → RelL (parseP s).2 (lineT s).2) := by
  cases hc : cutT s with
  | none =>
    have h1 : parseP s = (60, [], 0, []) := by unfold parseP; rw [hc]
    have h2 : (lineT s).1 = 60 := by unfold lineT; rw [hc]
    rw [h1, h2]
    exact ⟨rfl, fun h => by simp at h⟩
  | some l =>
    have hp := cut_prop hc
    rw [parse_item hc]
    have h2 : lineT s = readT l := by unfold lineT; rw [hc]
    rw [h2]
    by_cases hx : ∃ q r, l = Tok.nm q :: Tok.sg 58 :: r
    · obtain ⟨q, r, rfl⟩ := hx
      have e1 : readT (Tok.nm q :: Tok.sg 58 :: r) = if opOf q ≠ 0 then (61, ⟨q, 0, 0, 0, 0, 0, 0, [], 0⟩) else itemT q r := rfl
      have e2 : cutLT (Tok.nm q :: Tok.sg 58 :: r) = if opOf q = 0 then (q, r) else ([], Tok.nm q :: Tok.sg 58 :: r) := rfl
      rw [e1, e2]
      by_cases h0 : opOf q = 0
      · rw [if_pos h0, if_neg (fun h => h h0)]
        exact item_rel q r (prop_tail (prop_tail hp))
      · rw [if_neg h0, if_pos h0]
        have : itemP [] (Tok.nm q :: Tok.sg 58 :: r) = (61, [], 0, []) := by
          show (if isItT (opTk (.nm q)) (Tok.sg 58 :: r) then _ else (61, [], 0, [])) = _
          rw [colon_no]
          rfl
        rw [this]
        exact ⟨rfl, fun h => by simp at h⟩
    · have e1 : readT l = itemT [] l := by
        unfold readT
        split
        · rename_i q r; exact absurd ⟨q, r, rfl⟩ hx
        · rfl
      have e2 : cutLT l = ([], l) := by
        unfold cutLT
        split
        · rename_i q r; exact absurd ⟨q, r, rfl⟩ hx
        · rfl
      rw [e1, e2]
      exact item_rel [] l hp

theorem first_rel : ∀ (l : List (List UInt8)) (n : Nat), allP l n = match firstE l n with | some (k, e) => .error (k, e) | none => .ok (l.map (fun s => (parseP s).2))
  | [], _ => rfl
  | s :: r, n => by
    simp only [allP, firstE]
    rw [(line_rel s).1, first_rel r (n + 1)]
    by_cases h : (lineT s).1 ≠ 0
    · rw [if_pos h, if_pos h]
    · rw [if_neg h, if_neg h]
      cases firstE r (n + 1) with
      | none => rfl
      | some x => rfl
theorem first_zero : ∀ (l : List (List UInt8)) (n : Nat), firstE l n = none → ∀ s ∈ l, (lineT s).1 = 0
  | [], _, _, s, hs => by simp at hs
  | x :: r, n, h, s, hs => by
    simp only [firstE] at h
    split at h
    · cases h
    · rename_i h0
      rcases List.mem_cons.1 hs with rfl | hs
      · simpa using h0
      · exact first_zero r (n + 1) h s hs

def Rels : List St → List Ln6 → Prop
  | [], [] => True
  | st :: S, y :: Y => RelL st y ∧ Rels S Y
  | _, _ => False
theorem rels_map : ∀ (l : List (List UInt8)), (∀ s ∈ l, (lineT s).1 = 0) → Rels (l.map (fun s => (parseP s).2)) (linesT l)
  | [], _ => trivial
  | s :: r, h => ⟨(line_rel s).2 (h s (by simp)), rels_map r (fun x hx => h x (by simp [hx]))⟩

theorem lab_rel : ∀ (S : List St) (Y : List Ln6), Rels S Y → ∀ (nx : Nat) (m : List UInt8 → Option Int) (seen : List (List UInt8)) (n : Nat), m [] = none → (∀ k, k ≠ [] → ((m k).isSome = true ↔ k ∈ seen)) →
    match twiceE seen Y n with
    | some k => labP S (nx : Int) m n = .error k
    | none => ∃ m', labP S (nx : Int) m n = .ok m' ∧ m' [] = none ∧ ∀ k, k ≠ [] → m' k = match m k with | some v => some v | none => (addrT k Y nx).map (fun (v : Nat) => (v : Int))
  | [], [], _, nx, m, seen, n, h0, hm => ⟨m, rfl, h0, fun k hk => by cases m k <;> rfl⟩
  | [], _ :: _, h, _, _, _, _, _, _ => h.elim
  | _ :: _, [], h, _, _, _, _, _, _ => h.elim
  | st :: S, y :: Y, h, nx, m, seen, n, h0, hm => by
    obtain ⟨⟨hlab, hk⟩, hr⟩ := h
    have hop : (st.2.1 ≠ -1) ↔ y.k ≠ 0 := by
      rcases hk with ⟨a, b⟩ | ⟨a, b, _⟩ | ⟨a, b, _⟩
      · simp [a, b]
      · simp [a, b]
      · simp [a, b]
    simp only [twiceE, labP]
    by_cases hl : st.1 = []
    · have hl' : y.lab = [] := by rw [hlab, hl]
      rw [if_neg (fun h => h.1 hl'), if_neg (fun h => h.1 hl), if_pos hl]
      have ih := lab_rel S Y hr (if y.k ≠ 0 then nx + 4 else nx) m (y.lab :: seen) (n + 1) h0 (fun k hk' => by
        rw [hm k hk', List.mem_cons]
        constructor
        · exact Or.inr
        · rintro (e | e)
          · exact absurd (e.trans hl') hk'
          · exact e)
      have hnx : (if st.2.1 ≠ -1 then (nx : Int) + 4 else (nx : Int)) = ((if y.k ≠ 0 then nx + 4 else nx : Nat) : Int) := by
        by_cases hh : y.k ≠ 0
        · rw [if_pos (hop.2 hh), if_pos hh]; rfl
        · rw [if_neg (fun h => hh (hop.1 h)), if_neg hh]
      rw [hnx]
      cases ht : twiceE (y.lab :: seen) Y (n + 1) with
      | some k => rw [ht] at ih; exact ih
      | none =>
        rw [ht] at ih
        obtain ⟨m', e1, e2, e3⟩ := ih
        refine ⟨m', e1, e2, fun k hk' => ?_⟩
        rw [e3 k hk']
        simp only [addrT]
        rw [if_neg (show ¬ y.lab = k from fun e => hk' (e.symm.trans hl'))]
    · have hl' : y.lab ≠ [] := by rw [hlab]; exact hl
      by_cases hin : (m st.1).isSome = true
      · rw [if_pos ⟨hl', by rw [hlab]; exact (hm st.1 hl).1 hin⟩, if_pos ⟨hl, hin⟩]
      · rw [if_neg (fun h => hin ((hm st.1 hl).2 (by rw [← hlab]; exact h.2))), if_neg (fun h => hin h.2), if_neg hl]
        have hmn : m st.1 = none := by cases hx : m st.1 with | none => rfl | some v => rw [hx] at hin; simp at hin
        have ih := lab_rel S Y hr (if y.k ≠ 0 then nx + 4 else nx) (fun x => if x = st.1 then some (nx : Int) else m x) (y.lab :: seen) (n + 1) (by simp [Ne.symm hl, h0]) (fun k hk' => by
          rw [List.mem_cons, hlab]
          by_cases hks : k = st.1
          · simp [hks]
          · simp only [hks, false_or]
            exact hm k hk')
        have hnx : (if st.2.1 ≠ -1 then (nx : Int) + 4 else (nx : Int)) = ((if y.k ≠ 0 then nx + 4 else nx : Nat) : Int) := by
          by_cases hh : y.k ≠ 0
          · rw [if_pos (hop.2 hh), if_pos hh]; rfl
          · rw [if_neg (fun h => hh (hop.1 h)), if_neg hh]
        rw [hnx]
        cases ht : twiceE (y.lab :: seen) Y (n + 1) with
        | some k => rw [ht] at ih; exact ih
        | none =>
          rw [ht] at ih
          obtain ⟨m', e1, e2, e3⟩ := ih
          refine ⟨m', e1, e2, fun k hk' => ?_⟩
          rw [e3 k hk']
          simp only [addrT]
          by_cases hks : k = st.1
          · rw [hks, hmn, if_pos hlab]
            simp
          · rw [if_neg (show ¬ y.lab = k from fun e => hks (e.symm.trans hlab))]
            simp only [if_neg hks]

theorem words_rel (all : List Ln6) (base : Nat) (m : List UInt8 → Option Int) (h0 : m [] = none) (hm : ∀ k, k ≠ [] → m k = (addrT k all base).map (fun (v : Nat) => (v : Int))) : ∀ (S : List St) (Y : List Ln6), Rels S Y → ∀ (n : Nat) (out : List Int), wordsP m S n out = wordsT all base Y n out
  | [], [], _, _, _ => rfl
  | [], _ :: _, h, _, _ => h.elim
  | _ :: _, [], h, _, _ => h.elim
  | st :: S, y :: Y, h, n, out => by
    obtain ⟨⟨_, hk⟩, hr⟩ := h
    have ih := fun n out => words_rel all base m h0 hm S Y hr n out
    have hpos : ∀ s v, m s = some v → 0 ≤ v := fun s v hv => by
      by_cases hs : s = []
      · rw [hs, h0] at hv; cases hv
      · rw [hm s hs] at hv
        cases ha : addrT s all base with
        | none => rw [ha] at hv; cases hv
        | some w => rw [ha] at hv; simp at hv; omega
    simp only [wordsP, wordsT]
    rcases hk with ⟨a, b⟩ | ⟨a, b, c⟩ | ⟨a, b, c⟩
    · rw [if_pos a, if_pos b, ih]
    · rw [if_neg a, if_neg (show ¬ y.k = 0 by rw [b]; decide), if_pos b, c m, if_neg (by simp), ih]
    · rw [if_neg a, if_neg (show ¬ y.k = 0 by rw [b]; decide), if_neg (show ¬ y.k = 2 by rw [b]; decide), c m hpos]
      unfold immT
      by_cases hn : y.nm = []
      · rw [if_pos hn, if_pos hn]
        simp only [Bool.true_eq_false, if_false]
        exact ih _ _
      · rw [if_neg hn, if_neg hn, hm y.nm hn]
        cases addrT y.nm all base with
        | none => simp
        | some v =>
          simp only [Option.map_some]
          by_cases hv : (v : Int) ≤ 65535
          · rw [if_pos hv, if_neg (show ¬ 65535 < v by omega)]
            simp only [Bool.true_eq_false, if_false]
            exact ih _ _
          · rw [if_neg hv, if_pos (show 65535 < v by omega)]
            simp

/-- The program's steps and the plain assembler. -/
theorem asm_same (base : Int) (s : List UInt8) : asmP base s = ((asmT base s).ws, (asmT base s).line, (asmT base s).e) := by
  unfold asmP asmT
  by_cases hb : base < 0 ∨ 65535 < base
  · rw [if_pos hb, if_pos hb]
  · rw [if_neg hb, if_neg hb]
    by_cases h4 : 4000 < s.length
    · rw [if_pos h4, if_pos h4]
    · rw [if_neg h4, if_neg h4, first_rel]
      cases hf : firstE (splitB s) 1 with
      | some x => rfl
      | none =>
        have hz := first_zero _ _ hf
        have hr := rels_map _ hz
        have hl := lab_rel _ _ hr base.toNat (fun _ => none) [] 1 rfl (fun k _ => by simp)
        rw [show ((base.toNat : Nat) : Int) = base by omega] at hl
        simp only
        cases ht : twiceE [] (linesT (splitB s)) 1 with
        | some k =>
          rw [ht] at hl
          simp only at hl ⊢
          rw [hl]
        | none =>
          rw [ht] at hl
          obtain ⟨m', e1, e2, e3⟩ := hl
          simp only
          rw [e1]
          simp only
          rw [words_rel (linesT (splitB s)) base.toNat m' e2 (fun k hk => by rw [e3 k hk]) _ _ hr]
          cases wordsT (linesT (splitB s)) base.toNat (linesT (splitB s)) 1 [] with
          | ok ws => rfl
          | error k => rfl

end Go.Proofs.YtecipogfdhpjfaaGreatDoor
