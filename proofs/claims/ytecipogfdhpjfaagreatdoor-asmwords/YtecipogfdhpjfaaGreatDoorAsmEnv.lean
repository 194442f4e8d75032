/-
  What the library's calls that package asm makes answer, said of plain bytes; the tables that they read, as one fact on the world. No statement is proved here.
-/
import Derived.Test.YtecipogfdhpjfaaGreatDoorShelf
import Derived.Test.YtecipogfdhpjfaaGreatDoorRows
import Derived.Test.YtecipogfdhpjfaaGreatDoorAsmLibP
import Derived.Test.YtecipogfdhpjfaaGreatDoorIsaKind
namespace Go.Proofs.YtecipogfdhpjfaaGreatDoor
open Go.RowKit

def p10N : String := (Rows.asmWordsRow.laid.map Prod.fst).getD 2 ""
/-- The tables that the library reads lie as its text lays them. -/
structure Env (w : World) : Prop where
  sp : Lib.TabIs Tryz.prog w "strings.asciiSpace" .u8 Lib.asciiSpaceTab
  p10 : Lib.TabIs Tryz.prog w p10N .u64 Lib.pow10Tab
  ml : ∃ m, w.cell? ⟨3, 0, none⟩ = some (.int .i64 m)
  tz : w.cell? ⟨7, 15, none⟩ = some (.int .u8 4)

theorem g_sp : Tryz.prog.globalNamed "strings.asciiSpace" = some 0 := by kernel_rfl
theorem g_p10 : Tryz.prog.globalNamed p10N = some 2 := by kernel_rfl

theorem var_keep {S : Nat → Prop} {w w' : World} {n : String} {g : Nat} {cs : Array Value} (f : Fr S w w') (hg : Tryz.prog.globalNamed n = some g) (hs : ¬ S g) (h : w.var? Tryz.prog n = some cs) : w'.var? Tryz.prog n = some cs := by
  unfold World.var? at h ⊢
  rw [hg] at h ⊢
  simp only [Option.bind_some] at h ⊢
  have hl : g < w.heap.size := by
    rcases Nat.lt_or_ge g w.heap.size with h' | h'
    · exact h'
    · rw [Array.getElem?_eq_none h'] at h; cases h
  rw [f.block g hl hs]
  exact h

theorem Env.keepS {S : Nat → Prop} {w w' : World} (h : Env w) (f : Fr S w w') (hs : ∀ g, g < 9 → ¬ S g) : Env w' :=
  ⟨var_keep f g_sp (hs _ (by decide)) h.sp, var_keep f g_p10 (hs _ (by decide)) h.p10, let ⟨m, hm⟩ := h.ml; ⟨m, cell_keep f hm (hs _ (by decide))⟩, cell_keep f h.tz (hs _ (by decide))⟩
theorem Env.keep {w w' : World} (h : Env w) (f : Fr none' w w') : Env w' := h.keepS f (fun _ _ h => h)

theorem fr_below {w w' : World} (h : Below w.heap.size w w') : Fr none' w w' := Fr.of_below h (fun k h1 h2 => by omega)
theorem fr_grown {w : World} (k : Nat) (os : Array Obj) : Fr none' w (Sort.grow (w.drewN k) os) :=
  ⟨rfl, rfl, rfl, by simp [Sort.grow, World.drewN], fun i hi _ => by
    show (w.heap ++ os)[i]? = _
    rw [Array.getElem?_append_left hi]⟩

/-- A text as a value. -/
abbrev strV (l : List UInt8) : Value := .string ⟨l.toArray⟩

end Go.Proofs.YtecipogfdhpjfaaGreatDoor
