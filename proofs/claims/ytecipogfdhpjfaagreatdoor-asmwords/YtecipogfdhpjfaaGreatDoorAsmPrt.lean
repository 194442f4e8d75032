/-
  The contract of package asm's Print over the translation. No statement is proved here.
-/
import Derived.Test.YtecipogfdhpjfaaGreatDoorAsmItem2
namespace Go.Proofs.YtecipogfdhpjfaaGreatDoor
open Go.RowKit

theorem printI_len (x : Nat) (_hx : x < 4294967296) : (printL x).length ≤ 150 := by
  unfold printL
  split
  · have ha : 0 ≤ qa (x : Int) ∧ qa (x : Int) ≤ 65535 := by unfold qa; split <;> omega
    have hb : 0 ≤ qb (x : Int) ∧ qb (x : Int) ≤ 65535 := by unfold qb; split <;> omega
    have hc : 0 ≤ qc (x : Int) ∧ qc (x : Int) ≤ 65535 := by unfold qc; split <;> omega
    have hi : 0 ≤ qi (x : Int) ∧ qi (x : Int) ≤ 65535 := by unfold qi; split <;> omega
    have h1 := flatI_len _ _ _ _ ha hb hc hi (shapeB (qo (x : Int)))
    have h2 : (shapeB (qo (x : Int))).length ≤ 7 := by
      by_cases h0 : qo (x : Int) = 0
      · rw [h0]; decide
      · have := (lay_small (qo (x : Int))).1
        unfold layB at this; rwa [if_neg h0] at this
    have h3 : (mnOf (qo (x : Int))).length ≤ 100 := by
      by_cases h : qo (x : Int) < 1 ∨ 25 < qo (x : Int)
      · unfold mnOf; rw [if_pos h]; decide
      · have hh : ∀ k : Fin 26, (mnOf (k.val : Int)).length ≤ 100 := by decide +kernel
        have := hh ⟨(qo (x : Int)).toNat, by omega⟩
        rwa [show (((⟨(qo (x : Int)).toNat, by omega⟩ : Fin 26).val : Nat) : Int) = qo (x : Int) by simp; omega] at this
    unfold insB
    rw [List.length_append]
    split
    · simp; omega
    · rw [List.length_cons]; omega
  · simp [rawB]

theorem printB_len (ws : List Nat) (h : ∀ x ∈ ws, x < 4294967296) : (printB ws).length ≤ 151 * ws.length := by
  induction ws with
  | nil => simp [printB]
  | cons x r ih =>
    have h1 := printI_len x (h x (by simp))
    have h2 := ih (fun y hy => h y (by simp [hy]))
    unfold printB at h2 ⊢
    rw [List.flatMap_cons, List.length_append, List.length_append, List.length_cons]
    simp only [List.length_cons, List.length_nil]
    omega

theorem bkeep {T e : TypeId} {B b : Nat} {bs : List Value} {w w' : World} (h : Lib.IsBuilderF T e B b bs w) (f : Fr none' w w') : Lib.IsBuilderF T e B b bs w' := by
  have key : ∀ p, Lib.BuilderAtF T e B b p bs w → Lib.BuilderAtF T e B b p bs w' := fun p ⟨hB, v, hv, hown, hne⟩ =>
    ⟨hB, v, (f.block b (Row.lt (show Row w b #[p, v] T from hv)) (fun h => h)).trans hv, hown.kept (row := none) ⟨f.os, f.tape, f.output, f.size, fun k hk _ => f.block k hk (fun h => h)⟩ (Classical.em _), hne⟩
  rcases h with h | h
  · exact Or.inl (key _ h)
  · exact Or.inr (key _ h)

theorem bnew (T e : TypeId) (w : World) : Lib.IsBuilderF T e w.heap.size w.heap.size [] (w.alloc (.cells #[.pointer none, .slice none 0 0] T)) := by
  refine Or.inl ⟨Nat.le_refl _, .slice none 0 0, row_alloc w _ _, ⟨rfl, Or.inl ⟨rfl, rfl⟩⟩, by simp [Value.ownBlock]⟩

theorem write_any (B g : Nat) (l s : List UInt8) (w : World) (h : Lib.IsBuilderF 57 5 B g (Lib.byteCells l) w) (hlen : l.length + s.length ≤ 140737488355328) (hB : B ≤ w.heap.size) :
    Calls Tryz.prog 18 #[.pointer (some ⟨g, 0, none⟩), strV s] w fun e w' => (∃ v, e = .returned v) ∧ Lib.IsBuilderF 57 5 B g (Lib.byteCells (l ++ s)) w' ∧ Below B w w' := by
  have := Any.Builder_WriteString_k { Tryz.lays156 with } Tryz.Builder_Extra_156 B g (Lib.byteCells l) ⟨s.toArray⟩ w h (by simpa [Lib.byteCells_length, ByteArray.size] using hlen) hB
  refine this.mono ?_
  rintro e w' ⟨rfl, ⟨h1, h2, _⟩⟩
  refine ⟨⟨_, rfl⟩, Or.inr ?_, h2⟩
  have e1 : Lib.byteCells (l ++ s) = Lib.byteCells l ++ Lib.strCells ⟨s.toArray⟩ := by simp [Lib.byteCells, Lib.strCells]
  rw [e1]
  exact h1

set_option maxRecDepth 100000 in
set_option maxHeartbeats 2000000 in
theorem print_any (a0 : Option Addr) (cap : Nat) (ws : List Nat) (w : World) (hE : Env w) (h32 : ∀ x ∈ ws, x < 4294967296) (hn : ws.length ≤ 900000000000) (hc : ∀ (j x : Nat), ws[j]? = some x → ∃ b o, a0 = some ⟨b, o, none⟩ ∧ w.cell? ⟨b, o + j, none⟩ = some (.int .u32 (x : Int))) :
    Calls Tryz.prog 8 #[.slice a0 ws.length cap] w fun e w' => e = .returned (strV (printB ws)) ∧ Fr none' w w' := by
  have b0 := bnew 57 5 w
  have f0 := (Fr.refl none' w).alloc (.cells #[.pointer none, .slice none 0 0] 57)
  have HC := hid' hc
  have H32 := hid' h32
  have HE := hid' hE
  have HN := hid' hn
  obtain ⟨ln, hln⟩ : ∃ ln, ws.length = ln := ⟨_, rfl⟩
  rw [hln]
  have HLN := hid' hln
  have hlb : ln ≤ 9223372036854775807 := by omega
  clear hc h32 hE hn hln
  go_enter Tryz.func8, Tryz.ntmps8
  go_wp2_with fail
  go_loopw [8] (fun i wr => ∃ k : Nat, k ≤ ln ∧ i = .int .i64 (k : Int) ∧ Fr none' w wr ∧ w.heap.size ≤ wr.heap.size ∧ Lib.IsBuilderF 57 5 w.heap.size w.heap.size (Lib.byteCells (printB (ws.take k))) wr) (fun i _ => ln - (intOf i).toNat)
  case atStart => exact ⟨0, by omega, rfl, f0, f0.size, b0⟩
  case round =>
    clear f0 b0
    obtain ⟨k, hk, rfl, fk, hs, bk⟩ := hrel
    have HS := hid' hs
    clear hs
    by_cases hlt : k < ln
    · obtain ⟨x, hx⟩ : ∃ x, ws[k]? = some x := ⟨_, List.getElem?_eq_getElem (by have := HLN.out; omega)⟩
      obtain ⟨b, o, rfl, hcell⟩ := HC.out k x hx
      have c0 := cell_keep fk hcell (fun h => h)
      have hx32 := H32.out x (List.mem_of_getElem? hx)
      have i1 : 0 ≤ (k : Int) ∧ (k : Int) < (ln : Int) := by omega
      have u1 : decide ((k : Int) < (ln : Int)) = true := decide_eq_true (by omega)
      have u2 : decide (k < ln) = true := decide_eq_true hlt
      have hI := item_any x hx32 wr (HE.out.keep fk)
      have hpl := printI_len x hx32
      have a1 := add_run (printL x) [10] (by simp; omega)
      have HT : Hid (printB (ws.take (k + 1)) = printB (ws.take k) ++ (printL x ++ [10])) := by
        show printB (ws.take (k + 1)) = printB (ws.take k) ++ (printL x ++ [10])
        unfold printB
        rw [List.take_add_one, hx, List.flatMap_append]; simp
      have HP : Hid ((printB (ws.take k)).length + (printL x ++ [10]).length ≤ 140737488355328) := by
        show (printB (ws.take k)).length + (printL x ++ [10]).length ≤ 140737488355328
        have h1 := printB_len (ws.take k) (fun y hy => H32.out y (List.mem_of_mem_take hy))
        have h2 : (ws.take k).length ≤ 900000000000 := by have := HN.out; rw [List.length_take]; omega
        rw [List.length_append]
        simp only [List.length_cons, List.length_nil]
        omega
      obtain ⟨p, hp⟩ : ∃ p, printL x = p := ⟨_, rfl⟩
      rw [hp] at hI a1 HT HP
      obtain ⟨s1, hs1⟩ : ∃ s : ByteArray, s = ⟨p.toArray⟩ := ⟨_, rfl⟩
      obtain ⟨s2, hs2⟩ : ∃ s : ByteArray, s = ⟨(p ++ [10]).toArray⟩ := ⟨_, rfl⟩
      simp only [strV] at hI a1
      rw [← hs1] at hI a1
      rw [← hs2] at a1
      have HS2 := hid' hs2
      clear hx hcell hx32 hpl hp hs1 hs2
      go_wp2_with fail
      refine hI.mono ?_
      rintro e w1 ⟨rfl, f1⟩
      have hW := write_any w.heap.size w.heap.size (printB (ws.take k)) (p ++ [10]) w1 (bkeep bk f1) HP.out (Nat.le_trans HS.out f1.size)
      simp only [strV] at hW
      rw [← HS2.out] at hW
      clear hI c0 bk
      go_wp2_with fail
      refine hW.mono ?_
      rintro e w2 ⟨⟨v, rfl⟩, b2, bl⟩
      have F2 : Hid (Fr none' w w2) := ⟨bl.os.trans (fk.trans f1).os, bl.tape.trans (fk.trans f1).tape, bl.output.trans (fk.trans f1).output, Nat.le_trans (fk.trans f1).size bl.size, fun i hi hn => (bl.block i hi).trans ((fk.trans f1).block i hi hn)⟩
      have B2 := hid' b2
      clear hW b2 bl
      go_wp2_with fail
      go_roundw
      case rel => exact ⟨k + 1, by omega, by go_num, F2.out, F2.out.size, by rw [HT.out]; exact B2.out⟩
      case measure => simp [intOf]; omega
    · obtain rfl : k = ln := by omega
      have u1 : decide ((k : Int) < (k : Int)) = false := decide_eq_false (by omega)
      have u2 : decide (k < k) = false := decide_eq_false (by omega)
      have hS := Tryz.Builder_String_any_k w.heap.size w.heap.size (printB (ws.take k)) wr bk HS.out
      have hT : printB (ws.take k) = printB ws := by rw [List.take_of_length_le (by have := HLN.out; omega)]
      rw [hT] at hS
      clear hT bk
      go_wp2_with fail
      refine hS.mono ?_
      rintro e w1 ⟨rfl, _, bl, _⟩
      go_wp2_with fail
      go_ret
      exact ⟨rfl, ⟨bl.os.trans fk.os, bl.tape.trans fk.tape, bl.output.trans fk.output, Nat.le_trans fk.size bl.size, fun i hi hn => (bl.block i hi).trans (fk.block i hi hn)⟩⟩

end Go.Proofs.YtecipogfdhpjfaaGreatDoor
