/-
  The contract of package asm's 'read' over the translation: a line's tokens. No statement is proved here.
-/
import Derived.Test.YtecipogfdhpjfaaGreatDoorAsmWord2
import Derived.Test.YtecipogfdhpjfaaGreatDoorAsmOwn
import Derived.Test.YtecipogfdhpjfaaGreatDoorAsmRune
import Derived.Laws.RangeAny
namespace Go.Proofs.YtecipogfdhpjfaaGreatDoor
open Go.RowKit

theorem next_any {P : Program} {w : World} {g p : Nat} {s : ByteArray} (i : It w g s p) (h : p < s.size) (ty : TypeId) :
    (Instr.next (.pointer (some ⟨g, 0, none⟩)) true ty).run P w = .ok (.tuple #[.bool true, .int .i64 p, .int .i32 ((Utf8.decode s p).1 : Int)]) (itSet w g s (p + (Utf8.decode s p).2)) := by
  have i' : w.heap[g]? = some (.stringIter s p) := i
  simp [Instr.next, getObj, setObj, Sem.run_bind, Sem.run, i', Result.andThen, h, goInt, itSet]

theorem info_tok : (Tryz.prog.info? 95).map (fun i => (i.zero, i.size, i.bytes)) = some (some .nilIface, 1, 16) := by kernel_rfl
theorem append_tok (w : World) (B : Nat) (a : Addr) (v : Value) (L : List Tok) (t : Tok) (hb : B ≤ w.heap.size) (ho : OwnK 95 1 w B v L.length (L.map tval)) (hn : L.length < 10000) (hc : w.cell? (a.add 0) = some (tval t)) :
    ∃ v' w', (Builtin.append_ #[65, 65] 65 #[v, .slice (some a) 1 1]).run Tryz.prog w = .ok v' w' ∧ Fr (fun q => some q = v.ownBlock) w w' ∧ OwnK 95 1 w' B v' (L ++ [t]).length ((L ++ [t]).map tval) := by
  obtain ⟨v', w', h1, h2, h3⟩ := append_k Tryz.underlying65 info_tok rfl (by omega) (by omega) w B a v L.length (L.map tval) [tval t] hb ho (by omega) rfl
    (fun j u hu => by
      match j, hu with
      | 0, hu => simp at hu; rw [hc, hu]
      | j + 1, hu => simp at hu)
    (fun u hu => by simp at hu; subst hu; cases t <;> rfl)
  exact ⟨v', w', h1, h2, by simpa using h3⟩

theorem wrd_int (c : UInt8) : inW (c.toNat : Int) = isWrd c := by
  have h : ∀ n : Fin 256, inW ((UInt8.ofNat n.val).toNat : Int) = isWrd (UInt8.ofNat n.val) := by decide +kernel
  have := h ⟨c.toNat, by have := c.toNat_lt; omega⟩
  simpa using this
theorem inW_high {r : Int} (h : 128 ≤ r) : inW r = false := by
  unfold inW
  simp
  omega
theorem sgn_idx (c : UInt8) : decide (0 ≤ Lib.indexByte sgB.data.toList c) = isSgn c := by
  have h : ∀ n : Fin 256, decide (0 ≤ Lib.indexByte sgB.data.toList (UInt8.ofNat n.val)) = isSgn (UInt8.ofNat n.val) := by decide +kernel
  have := h ⟨c.toNat, by have := c.toNat_lt; omega⟩
  simpa using this
theorem bl_idx (c : UInt8) : decide (0 ≤ Lib.indexByte blB.data.toList c) = (c == 32) := by
  have h : ∀ n : Fin 256, decide (0 ≤ Lib.indexByte blB.data.toList (UInt8.ofNat n.val)) = (UInt8.ofNat n.val == 32) := by decide +kernel
  have := h ⟨c.toNat, by have := c.toNat_lt; omega⟩
  simpa using this

theorem crune_low (s : ByteArray) (c : UInt8) (h : c.toNat < 128) (w : World) : Calls Tryz.prog 69 #[.string s, .int .i32 (c.toNat : Int)] w fun e w' => e = .returned (.bool (decide (0 ≤ Lib.indexByte s.data.toList c))) ∧ Fr none' w w' := by
  refine (Tryz.strings_ContainsRune_ascii s (c.toNat : Int) w (by omega) (by omega)).mono ?_
  rintro e w' ⟨rfl, rfl⟩
  exact ⟨by simp, Fr.refl _ _⟩
theorem crune_high (s : ByteArray) (hs : s = sgB ∨ s = blB) (r : Int) (h : 128 ≤ r) (w : World) : Calls Tryz.prog 69 #[.string s, .int .i32 r] w fun e w' => e = .returned (.bool false) ∧ Fr none' w w' := by
  have hI : Calls Tryz.prog 95 #[.string s, .int .i32 r] w fun e w' => e = .returned (.int .i64 (-1)) ∧ Fr none' w w' := by
    by_cases hne : r = 65533
    · subst hne; exact irune_err s hs w
    · exact irune_high s hs r h hne w
  clear hs h
  go_enter Tryz.func69, Tryz.ntmps69
  go_wp2_with (go_at_call 95; refine hI.mono ?_; rintro e w1 ⟨rfl, f1⟩)
  go_ret
  exact ⟨rfl, f1⟩

/-- Reading is over once something was none. -/
theorem step_false (x : Cut) (c : UInt8) (h : x.ok = false) : (stepC x c).ok = false := by
  have hf : (flush x).ok = false := by
    unfold flush
    split
    · exact h
    · split
      · exact h
      · rfl
  unfold stepC
  repeat' split
  all_goals first | exact h | exact hf | rfl
theorem fold_false : ∀ (l : List UInt8) (x : Cut), x.ok = false → (l.foldl stepC x).ok = false
  | [], _, h => h
  | c :: l, x, h => fold_false l _ (step_false x c h)
def c0 : Cut := ⟨[], [], true⟩
/-- Where the reading of a line stands ahead of its byte p (a blank behind the last). -/
def atC (l : List UInt8) (p : Nat) : Cut := ((l ++ [32]).take p).foldl stepC c0
theorem atC_succ (l : List UInt8) (p : Nat) (c : UInt8) (h : (l ++ [32])[p]? = some c) : atC l (p + 1) = stepC (atC l p) c := by
  unfold atC
  rw [List.take_add_one, h, List.foldl_append]
  rfl
theorem atC_end (s : List UInt8) : atC (code s) ((code s).length + 1) = cutC s := by
  unfold atC cutC
  rw [List.take_of_length_le (by simp), List.foldl_append]
  rfl
theorem cut_bad (s : List UInt8) (p : Nat) (h : (atC (code s) p).ok = false) : cutT s = none := by
  have : (cutC s).ok = false := by
    rw [← atC_end]
    unfold atC at h ⊢
    rw [List.take_of_length_le (by simp)]
    conv => lhs; rw [← List.take_append_drop p (code s ++ [32]), List.foldl_append]
    exact fold_false _ _ h
  unfold cutT
  rw [this]
  rfl
theorem cut_good (s : List UInt8) (h : (atC (code s) ((code s).length + 1)).ok = true) : cutT s = some (atC (code s) ((code s).length + 1)).l := by
  rw [atC_end] at h ⊢
  unfold cutT
  rw [h]
  rfl

end Go.Proofs.YtecipogfdhpjfaaGreatDoor
