/-
  What the rows' lists give ('Env'), and the world of the witness. No statement is proved here.
-/
import Derived.Test.YtjfpmioiebnloaaGreatDoorAsmEnv
import Derived.Test.YtjfpmioiebnloaaGreatDoorTie
import Derived.Test.YtjfpmioiebnloaaGreatDoorCards
import Derived.ProofKit
import Derived.OpenShut
import Derived.ShutString
import Derived.ChangeOld
import Derived.SizedLaws
import Derived.Deep.Fields
import Derived.Deep.DeepHandedRow
import Derived.Deep.DeepWitnessRowRef
import Derived.Lib.LaidTab
namespace Go.Proofs.YtjfpmioiebnloaaGreatDoor
open Go.ChangeShapes Go.WideShapes Go.ChangeAt Go.RowKit

theorem own_knob : ownKnob Tryz.prog.godebug = none := by kernel_rfl
theorem laid_out : laidOutB Tryz.prog = true := by kernel_rfl

/-- A table that stands on the list. -/
theorem tab_in {W : World} {name : String} {k : IntKind} {zs : List Int} {g : Nat} {t e : TypeId} {n : Nat}
    (hg : Tryz.prog.globalNamed name = some g) (hty : (Tryz.prog.globals[g]?).map (·.type) = some t) (ht : Tryz.prog.underlying t = some (.array n e)) (he : Tryz.prog.underlying e = some (.int k)) (hce : Tryz.prog.cellsOf e = 1) (hct : Tryz.prog.cellsOf t = n) :
    ∀ (l : List (String × DataW Unit)) (ps : List MemPlace), DataW.LaidVars Tryz.prog W l ps → (name, Lib.tabData k zs) ∈ l → Lib.TabIs Tryz.prog W name k zs
  | [], _, _, hx => by simp at hx
  | (m, d) :: r, ps, h, hx => by
    obtain ⟨g', t', cs, fuel, p, q, hg', ht', hvar, hd, hr, _⟩ := h
    rcases List.mem_cons.1 hx with e' | hx
    · cases e'
      obtain rfl := Option.some.inj (hg.symm.trans hg')
      obtain rfl := Option.some.inj (hty.symm.trans ht')
      unfold Lib.TabIs
      rw [hvar, ← Lib.cells_of_tab ht he hce hct hd]
    · exact tab_in hg hty ht he hce hct r q hr hx

def tab64 : List Int := [0, 1, 56, 2, 57, 49, 28, 3, 61, 58, 42, 50, 38, 29, 17, 4, 62, 47, 59, 36, 45, 43, 51, 22, 53, 39, 33, 30, 24, 18, 12, 5, 63, 55, 48, 27, 60, 41, 37, 16, 46, 35, 44, 21, 52, 32, 23, 11, 54, 26, 40, 15, 34, 20, 31, 10, 25, 14, 19, 9, 13, 8, 7, 6]

def tzN : String := (Rows.asmWordsRow.laid.map Prod.fst).getD 1 ""
theorem cell5 : Tryz.prog.cellsOf 5 = 1 := by kernel_rfl
theorem cell64 : Tryz.prog.cellsOf 88 = 1 := by kernel_rfl
theorem g_tz : Tryz.prog.globalNamed tzN = some 7 := by kernel_rfl

set_option maxRecDepth 100000 in
theorem max_of_shape {W : World} (h : W.ShapedOpen Tryz.prog) : ∃ m, W.cell? ⟨3, 0, none⟩ = some (.int .i64 m) := by
  have h0 : ((begin Tryz.prog (fun _ _ => 0) default).world.heap[3]?).bind Obj.row? = some (#[.int .i64 0], 3) := by kernel_rfl
  obtain ⟨cs, hh, hs, hr⟩ := h.1 _ _ _ (of_decide_eq_true (by kernel_rfl)) h0
  obtain ⟨ts, hts, _, hall⟩ := hr (by kernel_rfl)
  have hc : Tryz.prog.cellTypes Tryz.prog.depth 3 = some [3] := by kernel_rfl
  rw [hc] at hts
  cases hts
  have h1 : 0 < cs.size := by rw [hs]; decide
  obtain ⟨u, hu', hok⟩ := hall 0 cs[0] (by simp [h1])
  have : u = 3 := by simpa using hu'.symm
  subst this
  have hcell : W.cell? ⟨3, 0, none⟩ = some cs[0] := by simp [World.cell?, hh, h1]
  rw [hcell]
  unfold Cell.ok at hok
  rw [Tryz.underlying3] at hok
  cases hv : cs[0] <;> rw [hv] at hok <;> first | (simp at hok; done) | (simp at hok; obtain ⟨rfl, _⟩ := hok; exact ⟨_, rfl⟩)

set_option maxRecDepth 100000 in
theorem env_of {W : World} (h : laidMetH Tryz.prog Rows.asmWordsRow.laid W) (hs : W.ShapedOpen Tryz.prog) : Env W := by
  have hf : (Rows.asmWordsRow.laid.filter fun x => x.2.handleName?.isSome) = [] := by kernel_rfl
  unfold laidMetH at h
  rw [hf] at h
  have h' : laidMet Tryz.prog Rows.asmWordsRow.laid W := h
  obtain ⟨ps, hv, _⟩ := h'
  have t1 := tab_in (name := "strings.asciiSpace") (k := .u8) (zs := Lib.asciiSpaceTab) (W := W) g_sp (t := 116) (by kernel_rfl) Tryz.underlying116 Tryz.underlying5 cell5 (by kernel_rfl) _ _ hv (List.mem_of_getElem? (i := 5) (by kernel_rfl))
  have t2 := tab_in (name := p10N) (k := .u64) (zs := Lib.pow10Tab) (W := W) g_p10 (t := 156) (by kernel_rfl) Tryz.underlying156 Tryz.underlying88 cell64 (by kernel_rfl) _ _ hv (List.mem_of_getElem? (i := 2) (by kernel_rfl))
  have t3 := tab_in (name := tzN) (k := .u8) (zs := tab64) (W := W) g_tz (t := 182) (by kernel_rfl) Tryz.underlying182 Tryz.underlying5 cell5 (by kernel_rfl) _ _ hv (List.mem_of_getElem? (i := 1) (by kernel_rfl))
  exact ⟨t1, t2, max_of_shape hs, t3.cell g_tz 15 (by decide)⟩

end Go.Proofs.YtjfpmioiebnloaaGreatDoor
