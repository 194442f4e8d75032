/-
  The sources that the laws build in loops, as plain facts: what has been written after so many turns, and what it is in the end. No program, no statement.
-/
import Derived.Test.YtiifadnmiambpaaGreatDoorAsmTables
import Derived.Test.YtiifadnmiambpaaGreatDoorAsmBlanksP
namespace Go.Proofs.YtiifadnmiambpaaGreatDoor
open Go.RowKit

/-- What was written after n turns. -/
def accB (f : Nat → List UInt8) (n : Nat) : List UInt8 := (List.range n).flatMap f
theorem acc_zero (f : Nat → List UInt8) : accB f 0 = [] := rfl
theorem acc_succ (f : Nat → List UInt8) (n : Nat) : accB f (n + 1) = accB f n ++ f n := by
  unfold accB
  rw [List.range_succ, List.flatMap_append]
  simp
theorem acc_add (f : Nat → List UInt8) (a : Nat) : ∀ b, accB f (a + b) = accB f a ++ accB (fun j => f (a + j)) b
  | 0 => by simp [acc_zero]
  | b + 1 => by rw [← Nat.add_assoc, acc_succ, acc_add f a b, acc_succ, List.append_assoc]
theorem rep_succ (n : Nat) (s : List UInt8) : joinL (List.replicate (n + 1) s) [] = joinL (List.replicate n s) [] ++ (s ++ [10]) := by
  rw [List.replicate_succ', join_append, join_cons, join_nil]
theorem acc_const (f : Nat → List UInt8) (s : List UInt8) : ∀ n, (∀ j, j < n → f j = s ++ [10]) → accB f n = joinL (List.replicate n s) []
  | 0, _ => rfl
  | n + 1, h => by rw [acc_succ, acc_const f s n (fun j hj => h j (by omega)), h n (by omega), rep_succ]
theorem acc_cut (f : Nat → List UInt8) (s : List UInt8) {at_ n : Nat} (h : at_ < n) (hb : ∀ j, j < n → j ≠ at_ → f j = s ++ [10]) :
    accB f n = joinL (List.replicate at_ s) [] ++ (f at_ ++ joinL (List.replicate (n - at_ - 1) s) []) := by
  have e : n = at_ + (1 + (n - at_ - 1)) := by omega
  rw [show accB f n = accB f (at_ + (1 + (n - at_ - 1))) by rw [← e], acc_add, acc_add]
  rw [acc_const f s at_ (fun j hj => hb j (by omega) (by omega))]
  rw [acc_const (fun j => f (at_ + (1 + j))) s (n - at_ - 1) (fun j hj => hb _ (by omega) (by omega))]
  rw [show accB (fun j => f (at_ + j)) 1 = f at_ by simp [accB]]

/-- The nops with a label ahead of one. -/
def labF (at_ i : Nat) : List UInt8 := (if i = at_ then hereB ++ [10] else []) ++ (nopB ++ [10])
theorem lab_built (many at_ : Nat) (ha : at_ ≤ many) : (accB (labF at_) many ++ if at_ = many then [104, 101, 114, 101, 58, 32] else []) ++ (jmpHB ++ 10 :: jalHB) = joinL (labL many at_) jalHB := by
  have off : ∀ j, j ≠ at_ → labF at_ j = nopB ++ [10] := fun j hj => by unfold labF; rw [if_neg hj]; rfl
  unfold labL
  by_cases h : at_ < many
  · rw [if_pos h, if_neg (by omega), acc_cut (labF at_) nopB h (fun j _ hj => off j hj), join_append, join_cons, join_append, join_cons, join_nil]
    rw [show labF at_ at_ = (hereB ++ [10]) ++ (nopB ++ [10]) by unfold labF; rw [if_pos rfl]]
    rw [show many - at_ = (many - at_ - 1) + 1 by omega, List.replicate_succ, join_cons, show many - at_ - 1 + 1 - 1 = many - at_ - 1 by omega]
    simp
  · obtain rfl : at_ = many := by omega
    rw [if_neg h, if_pos rfl, acc_const (labF at_) nopB at_ (fun j hj => off j (by omega)), join_append, join_cons, join_nil]
    simp [hereJ]

/-- Nops and jumps to the first. -/
theorem base_built (many : Nat) : (firstB ++ [10]) ++ accB (fun _ => nopB ++ 10 :: (jmpFB ++ [10])) many = joinL (baseL many) [] := by
  have : ∀ n, accB (fun _ => nopB ++ 10 :: (jmpFB ++ [10])) n = joinL (twoL n) [] := by
    intro n
    induction n with
    | zero => rfl
    | succ n ih =>
      rw [Nat.add_comm, acc_add, ih, show 1 + n = n + 1 by omega, two_succ, join_cons, join_cons]
      simp [accB]
  rw [this]
  unfold baseL
  rw [join_cons]
  simp

/-- Right lines with one wrong line among them. -/
def firF (many at_ k i : Nat) : List UInt8 := (if i = at_ then wrongB k ++ [10] else []) ++ (if i < many then fineB ++ [10] else [])
theorem first_built (many at_ k : Nat) (ha : at_ ≤ many) : accB (firF many at_ k) (many + 1) = joinL (List.replicate at_ fineB ++ wrongB k :: List.replicate (many - at_) fineB) [] := by
  have off : ∀ j, j < many → j ≠ at_ → firF many at_ k j = fineB ++ [10] := fun j hj hn => by unfold firF; rw [if_neg hn, if_pos hj]; rfl
  rw [acc_succ, join_append, join_cons]
  by_cases h : at_ < many
  · rw [acc_cut (firF many at_ k) fineB h off, show firF many at_ k many = [] by unfold firF; rw [if_neg (by omega), if_neg (by omega)]; rfl]
    rw [show firF many at_ k at_ = (wrongB k ++ [10]) ++ (fineB ++ [10]) by unfold firF; rw [if_pos rfl, if_pos h]]
    rw [show many - at_ = (many - at_ - 1) + 1 by omega, List.replicate_succ, join_cons, show many - at_ - 1 + 1 - 1 = many - at_ - 1 by omega]
    simp
  · obtain rfl : at_ = many := by omega
    rw [acc_const (firF at_ at_ k) fineB at_ (fun j hj => off j hj (by omega)), show firF at_ at_ k at_ = wrongB k ++ [10] by unfold firF; rw [if_pos rfl, if_neg h]; simp]
    simp [joinL]

/-- A label ahead of one nop, or of two. -/
def oncF (n f i : Nat) : List UInt8 := (if i = f then nameB n ++ [58, 32] else []) ++ (nopB ++ [10])
def twiF (n f s i : Nat) : List UInt8 := ((if i = f then nameB n ++ [58, 32] else []) ++ (if i = s then nameB n ++ [58, 32] else [])) ++ (nopB ++ [10])
theorem once_built (n many f : Nat) (hf : f < many) : accB (oncF n f) many = joinL (List.replicate f nopB ++ nameL n :: List.replicate (many - f - 1) nopB) [] := by
  rw [acc_cut (oncF n f) nopB hf (fun j _ hj => by unfold oncF; rw [if_neg hj]; rfl), join_append, join_cons]
  rw [show oncF n f f = nameL n ++ [10] by unfold oncF nameL; rw [if_pos rfl]; simp]
  simp
theorem twice_built (n many f s : Nat) (hf : f < s) (hs : s < many) : accB (twiF n f s) many = joinL (List.replicate f nopB ++ nameL n :: (List.replicate (s - f - 1) nopB ++ nameL n :: List.replicate (many - s - 1) nopB)) [] := by
  have e1 : twiF n f s f = nameL n ++ [10] := by unfold twiF nameL; rw [if_pos rfl, if_neg (by omega)]; simp
  have e2 : twiF n f s s = nameL n ++ [10] := by unfold twiF nameL; rw [if_neg (by omega), if_pos rfl]; simp
  have off : ∀ j, j ≠ f → j ≠ s → twiF n f s j = nopB ++ [10] := fun j h1 h2 => by unfold twiF; rw [if_neg h1, if_neg h2]; rfl
  have e : many = s + (1 + (many - s - 1)) := by omega
  rw [show accB (twiF n f s) many = accB (twiF n f s) (s + (1 + (many - s - 1))) by rw [← e], acc_add, acc_add]
  rw [acc_cut (twiF n f s) nopB hf (fun j h1 h2 => off j h2 (by omega)), e1]
  rw [acc_const (fun j => twiF n f s (s + (1 + j))) nopB (many - s - 1) (fun j _ => off _ (by omega) (by omega))]
  rw [show accB (fun j => twiF n f s (s + j)) 1 = twiF n f s s by simp [accB], e2]
  rw [join_append, join_cons, join_append, join_cons]
  simp

/-- Whether a remark has begun, behind some bytes. -/
def rmB (rm : Bool) (a : List UInt8) : Bool := a.foldl (fun r c => if c = 10 then false else if c = 59 then true else r) rm
theorem emit_rm (ch : Nat → Bool) (i : Nat) (rm : Bool) (c : UInt8) : (emitB ch i rm c).2 = rmB rm [c] := by
  unfold emitB rmB
  simp only [List.foldl_cons, List.foldl_nil]
  by_cases h : c = 10
  · rw [if_pos h, if_pos h]
  by_cases h2 : c = 59
  · rw [if_neg h, if_neg h, if_pos h2, if_pos h2]
  rw [if_neg h, if_neg h, if_neg h2, if_neg h2]
  split <;> rfl
theorem rm_app (rm : Bool) (a b : List UInt8) : rmB rm (a ++ b) = rmB (rmB rm a) b := by unfold rmB; rw [List.foldl_append]
theorem blk_app (ch : Nat → Bool) : ∀ (a b : List UInt8) (i : Nat) (rm : Bool), blkB ch i rm (a ++ b) = blkB ch i rm a ++ blkB ch (i + a.length) (rmB rm a) b
  | [], b, i, rm => by simp [blkB, rmB]
  | c :: a, b, i, rm => by
    rw [List.cons_append, blkB, blkB, blk_app ch a b, List.append_assoc, emit_rm, ← rm_app, List.length_cons, show i + 1 + a.length = i + (a.length + 1) by omega]
    rfl
/-- One turn of the law's loop. -/
theorem blk_turn (ch : Nat → Bool) (s : List UInt8) (i : Nat) (h : i < s.length) : blkB ch 0 false (s.take (i + 1)) = blkB ch 0 false (s.take i) ++ (emitB ch i (rmB false (s.take i)) s[i]).1 ∧ rmB false (s.take (i + 1)) = rmB (rmB false (s.take i)) [s[i]] := by
  rw [List.take_succ_eq_append_getElem h, blk_app, rm_app, List.length_take, show 0 + min i s.length = i by omega]
  refine ⟨?_, rfl⟩
  simp [blkB]
theorem emit_len (ch : Nat → Bool) (i : Nat) (rm : Bool) (c : UInt8) : (emitB ch i rm c).1.length ≤ 8 := by
  unfold emitB
  split
  · decide
  split
  · decide
  split <;> simp
theorem blk_len (ch : Nat → Bool) : ∀ (s : List UInt8) (i : Nat) (rm : Bool), (blkB ch i rm s).length ≤ 8 * s.length
  | [], _, _ => by simp [blkB]
  | c :: s, i, rm => by
    have a := emit_len ch i rm c
    have b := blk_len ch s (i + 1) (emitB ch i rm c).2
    rw [blkB, List.length_append, List.length_cons]
    omega

end Go.Proofs.YtiifadnmiambpaaGreatDoor
