/-
  AsmBack over the translation: whatever base and words came in, the law returns true, and nothing old turns. No statement is proved here.
-/
import Derived.Test.YtiifadnmiambpaaGreatDoorAsmU32
import Derived.Test.YtiifadnmiambpaaGreatDoorAsmTables
namespace Go.Proofs.YtiifadnmiambpaaGreatDoor
open Go.RowKit

set_option maxRecDepth 100000 in
set_option maxHeartbeats 1000000 in
theorem back_out (b : Int) (a0 : Option Addr) (n cap : Nat) (w : World) (hE : Env w) (h : b < 0 ∨ (¬ b < 0 ∧ (65535 < b ∨ (¬ 65535 < b ∧ (150 : Int) < (n : Int))))) :
    Calls Tryz.prog 5 #[.int .i64 b, .slice a0 n cap] w fun e w' => e = .returned (.bool true) ∧ Fr none' w w' := by
  have A := awake_any w hE
  rcases h with h1 | ⟨h1, h2 | ⟨h2, h3⟩⟩
  · have g1 : decide (b < 0) = true := decide_eq_true h1
    clear h1
    go_enter Tryz.func5, Tryz.ntmps5
    go_wp2_with fail
    refine A.mono ?_
    rintro e w1 ⟨rfl, f1⟩
    go_wp2_with fail
    go_ret
    exact ⟨rfl, f1⟩
  · have g1 : decide (b < 0) = false := decide_eq_false h1
    have g2 : decide (65535 < b) = true := decide_eq_true h2
    clear h1 h2
    go_enter Tryz.func5, Tryz.ntmps5
    go_wp2_with fail
    refine A.mono ?_
    rintro e w1 ⟨rfl, f1⟩
    go_wp2_with fail
    go_ret
    exact ⟨rfl, f1⟩
  · have g1 : decide (b < 0) = false := decide_eq_false h1
    have g2 : decide (65535 < b) = false := decide_eq_false h2
    have g3 : decide ((150 : Int) < (n : Int)) = true := decide_eq_true h3
    have g4 : decide (150 < n) = true := decide_eq_true (by omega)
    clear h1 h2 h3
    go_enter Tryz.func5, Tryz.ntmps5
    go_wp2_with fail
    refine A.mono ?_
    rintro e w1 ⟨rfl, f1⟩
    go_wp2_with fail
    go_ret
    exact ⟨rfl, f1⟩

set_option maxRecDepth 100000 in
set_option maxHeartbeats 2000000 in
theorem back_in (b : Int) (a0 : Option Addr) (cap : Nat) (ws : List Nat) (w : World) (hE : Env w) (h32 : ∀ x ∈ ws, x < 4294967296) (hus : U32s w a0 ws) (h0 : 0 ≤ b) (h1 : b ≤ 65535) (hn : ws.length ≤ 150) :
    Calls Tryz.prog 5 #[.int .i64 b, .slice a0 ws.length cap] w fun e w' => e = .returned (.bool true) ∧ Fr none' w w' := by
  have A := awake_any w hE
  have g1 : decide (b < 0) = false := decide_eq_false (by omega)
  have g2 : decide (65535 < b) = false := decide_eq_false (by omega)
  have g3 : decide ((150 : Int) < (ws.length : Int)) = false := decide_eq_false (by omega)
  have g4 : decide (150 < ws.length) = false := decide_eq_false (by omega)
  have hpl := print_len ws
  have hback := asm_print b h0 h1 ws h32 (by omega)
  obtain ⟨s, hs⟩ : ∃ s : ByteArray, s = ⟨(printB ws).toArray⟩ := ⟨_, rfl⟩
  have hsl : s.data.toList = printB ws := by rw [hs]
  have HP := fun w hE hu => print_any a0 cap ws w hE h32 (by omega) hu
  simp only [strV, ← hs] at HP
  have HA := fun w hE => asmis_any b s w hE
  simp only [hsl, hback] at HA
  have HE := hid' hE
  have HU := hid' hus
  have HN := hid' hn
  obtain ⟨ln, hln⟩ : ∃ ln, ws.length = ln := ⟨_, rfl⟩
  have HS := fun (w : World) (v : Value) (h : Ws w v (ws.map (fun (x : Nat) => (x : Int)))) (hu : U32s w a0 ws) => same_eq v (.slice a0 ws.length cap) _ w (by rw [List.length_map]; omega) h hu.ws
  simp only [hln] at HP HS g3 g4
  rw [hln]
  clear hE hus h0 h1 hn hpl hback hs hsl hln
  go_enter Tryz.func5, Tryz.ntmps5
  go_wp2_with fail
  refine A.mono ?_
  rintro e w1 ⟨rfl, f1⟩
  clear A
  go_wp2_with fail
  refine (HP _ (HE.out.keep f1) (HU.out.keep0 f1)).mono ?_
  rintro e w2 ⟨rfl, f2⟩
  replace f1 := f1.trans f2
  clear HP f2
  go_wp2_with fail
  refine (HA _ (HE.out.keep f1)).mono ?_
  rintro e w3 ⟨⟨v1, rfl, o1⟩, f3⟩
  replace f1 := f1.trans f3
  have hW := ws_own o1
  clear HA f3 o1
  go_wp2_with fail
  refine (HS _ v1 hW (HU.out.keep0 f1)).mono ?_
  rintro e w4 ⟨rfl, f4⟩
  replace f1 := f1.trans f4
  go_wp2_with fail
  go_ret
  exact ⟨rfl, f1⟩

theorem backl_any (b : Int) (a0 : Option Addr) (cap : Nat) (ws : List Nat) (w : World) (hE : Env w) (h32 : ∀ x ∈ ws, x < 4294967296) (hus : U32s w a0 ws) :
    Calls Tryz.prog 5 #[.int .i64 b, .slice a0 ws.length cap] w fun e w' => e = .returned (.bool true) ∧ Below w.heap.size w w' := by
  have H : Calls Tryz.prog 5 #[.int .i64 b, .slice a0 ws.length cap] w fun e w' => e = .returned (.bool true) ∧ Fr none' w w' := by
    by_cases h : 0 ≤ b ∧ b ≤ 65535 ∧ ws.length ≤ 150
    · exact back_in b a0 cap ws w hE h32 hus h.1 h.2.1 h.2.2
    · exact back_out b a0 ws.length cap w hE (by omega)
  exact H.mono fun _ _ ⟨he, hf⟩ => ⟨he, hf.below (Nat.le_refl _) (fun _ h => h.elim)⟩

end Go.Proofs.YtiifadnmiambpaaGreatDoor
