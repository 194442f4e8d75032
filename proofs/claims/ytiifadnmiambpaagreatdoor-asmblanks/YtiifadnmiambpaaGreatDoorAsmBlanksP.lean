/-
  Blanks round signs, at the end, and remarks change nothing: plain facts. No program, no statement.
-/
import Derived.Test.YtiifadnmiambpaaGreatDoorAsmSrc
namespace Go.Proofs.YtiifadnmiambpaaGreatDoor
open Go.RowKit

/-- A source read byte by byte: the lines that are read, the line that is being read, whether a remark has begun. -/
structure Scan where (d : List Cut) (x : Cut) (rm : Bool)
def cut0 : Cut := ⟨[], [], true⟩
def scanS (s : Scan) (c : UInt8) : Scan := if c = 10 then ⟨s.d ++ [flush s.x], cut0, false⟩ else if s.rm then s else if c = 59 then ⟨s.d, s.x, true⟩ else ⟨s.d, stepC s.x c, false⟩
def scanE (s : Scan) : List Cut := s.d ++ [flush s.x]

theorem split_cons (c : UInt8) (r : List UInt8) (h : c ≠ 10) : ∃ l ls, splitB r = l :: ls ∧ splitB (c :: r) = (c :: l) :: ls := by
  cases e : splitB r with
  | nil => exact absurd e (split_ne r)
  | cons l ls =>
    refine ⟨l, ls, rfl, ?_⟩
    rw [show splitB (c :: r) = (if c = 10 then [] :: splitB r else match splitB r with | [] => [[c]] | x :: xs => (c :: x) :: xs) from rfl, if_neg h, e]

theorem scan_split : ∀ (s : List UInt8) (d : List Cut) (x : Cut) (rm : Bool) (l : List UInt8) (ls : List (List UInt8)), splitB s = l :: ls →
    scanE (s.foldl scanS ⟨d, x, rm⟩) = d ++ flush (if rm then x else (code l).foldl stepC x) :: ls.map cutC
  | [], d, x, rm, l, ls, e => by
    simp only [splitB, List.cons.injEq] at e
    obtain ⟨rfl, rfl⟩ := e
    cases rm <;> rfl
  | c :: r, d, x, rm, l, ls, e => by
    by_cases h : c = 10
    · subst h
      rw [show splitB (10 :: r) = [] :: splitB r from rfl] at e
      simp only [List.cons.injEq] at e
      obtain ⟨rfl, rfl⟩ := e
      cases e2 : splitB r with
      | nil => exact absurd e2 (split_ne r)
      | cons l2 ls2 =>
        rw [List.foldl_cons, show scanS ⟨d, x, rm⟩ 10 = ⟨d ++ [flush x], cut0, false⟩ from rfl, scan_split r _ cut0 false l2 ls2 e2]
        cases rm <;> simp [code, cutC, cut0]
    · obtain ⟨l2, ls2, e2, e3⟩ := split_cons c r h
      rw [e3] at e
      simp only [List.cons.injEq] at e
      obtain ⟨rfl, rfl⟩ := e
      rw [List.foldl_cons]
      cases rm with
      | true =>
        rw [show scanS ⟨d, x, true⟩ c = ⟨d, x, true⟩ by unfold scanS; rw [if_neg h, if_pos rfl], scan_split r d x true l2 ls2 e2]
        rfl
      | false =>
        by_cases h2 : c = 59
        · subst h2
          rw [show scanS ⟨d, x, false⟩ 59 = ⟨d, x, true⟩ from rfl, scan_split r d x true l2 ls2 e2]
          rfl
        · rw [show scanS ⟨d, x, false⟩ c = ⟨d, stepC x c, false⟩ by unfold scanS; rw [if_neg h, if_neg (by simp), if_neg h2], scan_split r d _ false l2 ls2 e2]
          have hc : code (c :: l2) = c :: code l2 := by unfold code; rw [List.takeWhile_cons, if_pos (by simpa using h2)]
          simp only [Bool.false_eq_true, if_false]
          rw [hc, List.foldl_cons]

theorem scan_all (s : List UInt8) : scanE (s.foldl scanS ⟨[], cut0, false⟩) = (splitB s).map cutC := by
  cases e : splitB s with
  | nil => exact absurd e (split_ne s)
  | cons l ls =>
    rw [scan_split s [] cut0 false l ls e]
    rfl

theorem flush_id {y : Cut} (h : y.w = []) : flush y = y := by
  unfold flush
  rw [if_pos h]

theorem flush_twice (x : Cut) : flush (flush x) = flush x := by
  have : (flush x).w = [] := by
    unfold flush
    split
    · assumption
    · split <;> rfl
  exact flush_id this

/-- What the law writes for a byte, and whether a remark has begun behind it. -/
def emitB (ch : Nat → Bool) (i : Nat) (rm : Bool) (c : UInt8) : List UInt8 × Bool :=
  if c = 10 then ([32, 59, 32, 120, 58, 32, 121, 10], false) else if c = 59 then ([59], true) else if rm = false ∧ isSgn c = true ∧ ch i = true then ([32, 32, c, 32], rm) else ([c], rm)
def blkB (ch : Nat → Bool) : Nat → Bool → List UInt8 → List UInt8
  | _, _, [] => []
  | i, rm, c :: r => (emitB ch i rm c).1 ++ blkB ch (i + 1) (emitB ch i rm c).2 r

theorem sgn_not {c : UInt8} (h : isSgn c = true) : isWrd c = false ∧ c ≠ 10 ∧ c ≠ 59 ∧ c ≠ 32 := by
  unfold isSgn at h
  simp only [Bool.or_eq_true, beq_iff_eq] at h
  rcases h with (((rfl | rfl) | rfl) | rfl) | rfl <;> decide

theorem emit_scan (ch : Nat → Bool) (i : Nat) (s : Scan) (c : UInt8) : (emitB ch i s.rm c).1.foldl scanS s = scanS s c ∧ (emitB ch i s.rm c).2 = (scanS s c).rm := by
  obtain ⟨d, x, rm⟩ := s
  unfold emitB
  by_cases h : c = 10
  · subst h
    rw [if_pos rfl]
    refine ⟨?_, rfl⟩
    cases rm
    · show Scan.mk (d ++ [flush (flush x)]) cut0 false = _
      rw [flush_twice]
      rfl
    · rfl
  · rw [if_neg h]
    by_cases h2 : c = 59
    · subst h2
      rw [if_pos rfl]
      cases rm <;> exact ⟨rfl, rfl⟩
    · rw [if_neg h2]
      have keep : (scanS ⟨d, x, rm⟩ c).rm = rm := by
        unfold scanS
        rw [if_neg h]
        cases rm
        · rw [if_neg (by simp), if_neg h2]
        · rw [if_pos rfl]
      by_cases h3 : rm = false ∧ isSgn c = true ∧ ch i = true
      · rw [if_pos h3]
        refine ⟨?_, keep.symm⟩
        obtain ⟨h4, h5, _⟩ := h3
        obtain ⟨n1, _, _, _⟩ := sgn_not h5
        have hr : rm = false := h4
        subst hr
        have sc : ∀ y : Cut, scanS ⟨d, y, false⟩ c = ⟨d, stepC y c, false⟩ := fun y => by unfold scanS; rw [if_neg h, if_neg (by simp), if_neg h2]
        show scanS (scanS (scanS (scanS ⟨d, x, false⟩ 32) 32) c) 32 = _
        rw [show scanS ⟨d, x, false⟩ 32 = ⟨d, flush x, false⟩ from rfl, show scanS ⟨d, flush x, false⟩ 32 = ⟨d, flush (flush x), false⟩ from rfl, flush_twice, sc, sc]
        show Scan.mk d (flush (stepC (flush x) c)) false = _
        rw [step_sign _ h5 n1, step_sign _ h5 n1, flush_twice, flush_none]
      · rw [if_neg h3]
        exact ⟨rfl, keep.symm⟩

theorem blk_scan (ch : Nat → Bool) : ∀ (src : List UInt8) (i : Nat) (s : Scan), (blkB ch i s.rm src).foldl scanS s = src.foldl scanS s
  | [], _, _ => rfl
  | c :: r, i, s => by
    obtain ⟨h1, h2⟩ := emit_scan ch i s c
    rw [blkB, List.foldl_append, h1, h2, blk_scan ch r (i + 1) (scanS s c), List.foldl_cons]

theorem tail_scan (s : Scan) : scanE ([32, 32].foldl scanS s) = scanE s := by
  obtain ⟨d, x, rm⟩ := s
  cases rm
  · show d ++ [flush (flush (flush x))] = d ++ [flush x]
    rw [flush_twice, flush_twice]
  · rfl

theorem blank_cuts (ch : Nat → Bool) (src : List UInt8) : (splitB (blkB ch 0 false src ++ [32, 32])).map cutC = (splitB src).map cutC := by
  rw [← scan_all, ← scan_all, List.foldl_append, tail_scan, blk_scan ch src 0 ⟨[], cut0, false⟩]

/-- A line, by its cut alone. -/
def lineC (x : Cut) : Nat × Ln6 := match (if x.ok then some x.l else none) with | some l => readT l | none => (60, ⟨[], 0, 0, 0, 0, 0, 0, [], 0⟩)
theorem line_cut (s : List UInt8) : lineT s = lineC (cutC s) := rfl
def firstC : List Cut → Nat → Option (Nat × Nat)
  | [], _ => none
  | x :: r, n => if (lineC x).1 ≠ 0 then some (n, (lineC x).1) else firstC r (n + 1)
theorem first_cut : ∀ (l : List (List UInt8)) (n : Nat), firstE l n = firstC (l.map cutC) n
  | [], _ => rfl
  | s :: r, n => by
    rw [List.map_cons, firstC, firstE, first_cut r (n + 1), line_cut]
theorem lines_cut (l : List (List UInt8)) : linesT l = (l.map cutC).map (fun x => (lineC x).2) := by
  unfold linesT
  rw [List.map_map]
  rfl

/-- Blanks and remarks change nothing. -/
theorem asm_blanks (ch : Nat → Bool) (base : Int) (src : List UInt8) (h1 : src.length ≤ 4000) (h2 : (blkB ch 0 false src ++ [32, 32]).length ≤ 4000) : asmT base (blkB ch 0 false src ++ [32, 32]) = asmT base src := by
  unfold asmT
  by_cases hb : base < 0 ∨ 65535 < base
  · rw [if_pos hb, if_pos hb]
  · rw [if_neg hb, if_neg hb, if_neg (by omega), if_neg (by omega)]
    simp only [first_cut, lines_cut, blank_cuts]

end Go.Proofs.YtiifadnmiambpaaGreatDoor
