/-
  AsmJoins over the translation: whatever words came in, the law returns true, and nothing old turns. No statement is proved here.
-/
import Derived.Test.YtiifadnmiambpaaGreatDoorAsmU32
import Derived.Test.YtiifadnmiambpaaGreatDoorAsmTables
import Derived.Laws.AppendOwnNone
namespace Go.Proofs.YtiifadnmiambpaaGreatDoor
open Go.RowKit

theorem app_ws (w : World) (B : Nat) (v : Value) (L : List Int) (ws : List Nat) (a0 : Option Addr) (cap : Nat) (ho : w.ownsRow B 28 1 v L.length (L.map (Value.int .u32))) (hu : U32s w a0 ws) (hno : a0 = none → ws = [] ∧ cap = 0) (hb : B ≤ w.heap.size) (hlen : L.length + ws.length ≤ 1000) :
    ∃ v' w', (Builtin.append_ #[23, 23] 23 #[v, .slice a0 ws.length cap]).run Tryz.prog w = .ok v' w' ∧ Fr (fun q => some q = v.ownBlock) w w' ∧ w'.ownsRow B 28 1 v' (L ++ ws.map (fun (x : Nat) => (x : Int))).length ((L ++ ws.map (fun (x : Nat) => (x : Int))).map (Value.int .u32)) := by
  have hi := info_u32
  cases hq : Tryz.prog.info? 28 with
  | none => simp [hq] at hi
  | some i =>
    rw [hq] at hi
    simp only [Option.map_some, Option.some.injEq, Prod.mk.injEq] at hi
    obtain ⟨hz, hs, hby⟩ := hi
    cases a0 with
    | none =>
      obtain ⟨rfl, rfl⟩ := hno rfl
      refine ⟨v, w, run_append_owned_none (P := Tryz.prog) (w := w) B 23 23 28 i 1 Tryz.underlying23 hq v _ _ ho, Fr.refl _ _, ?_⟩
      simpa using ho
    | some a =>
      obtain ⟨v', w', h1, h2, h3, _⟩ := run_append_own (P := Tryz.prog) w B 23 23 28 i _ 1 4 Tryz.underlying23 hq hz hs hby rfl (by omega) v L.length (L.map (Value.int .u32)) ho a ws.length cap (ws.map (fun (x : Nat) => Value.int .u32 (x : Int))) (by simp)
        (fun j u hu' => by
          rw [List.getElem?_map] at hu'
          cases hj : ws[j]? with
          | none => rw [hj] at hu'; cases hu'
          | some y =>
            rw [hj] at hu'
            cases hu'
            obtain ⟨b, o, he, hc⟩ := hu j y hj
            cases he
            rw [add_lit']
            exact hc)
        (fun u hu' => by
          obtain ⟨y, _, rfl⟩ := List.mem_map.1 hu'
          simp [Value.oneCell'])
        (by simp only [maxLen]; omega) (by omega) hb
      refine ⟨v', w', h1, fr_of_grownK h3, ?_⟩
      have e1 : (L ++ ws.map (fun (x : Nat) => (x : Int))).length = L.length + ws.length := by simp
      have e2 : (L ++ ws.map (fun (x : Nat) => (x : Int))).map (Value.int .u32) = L.map (Value.int .u32) ++ ws.map (fun (x : Nat) => Value.int .u32 (x : Int)) := by simp
      rw [e1, e2]
      exact h2

theorem ws_row {w : World} {B : Nat} {v : Value} {L : List Int} (h : w.ownsRow B 28 1 v L.length (L.map (Value.int .u32))) : Ws w v L := by
  obtain ⟨hl, h | ⟨g, cap, cur, hv, hb, hg, hc, hm, hs, ht⟩⟩ := h
  · have hL : L = [] := List.length_eq_zero_iff.1 h.2
    subst hL
    exact ⟨none, 0, h.1, fun j x hx => by simp at hx⟩
  · refine ⟨_, cap, hv, fun j x hj => ⟨g, 0, rfl, ?_⟩⟩
    have hr : Row w g cur 28 := hg
    have hlt : j < L.length := (List.getElem?_eq_some_iff.1 hj).1
    rw [Nat.zero_add, hr.cell]
    have : (cur.toList.take (L.length * 1))[j]? = some (Value.int .u32 x) := by rw [ht]; simp [hj]
    rw [List.getElem?_take, if_pos (by omega)] at this
    simpa using this

theorem own_empty (w : World) (B : Nat) (hb : B ≤ w.heap.size) : (w.alloc (.cells #[] 28)).ownsRow B 28 1 (.slice (some ⟨w.heap.size, 0, none⟩) 0 0) ([] : List Int).length (([] : List Int).map (Value.int .u32)) :=
  ⟨rfl, Or.inr ⟨w.heap.size, 0, #[], rfl, hb, row_alloc w _ _, Nat.le_refl _, by simp [maxLen], rfl, rfl⟩⟩

theorem own_high {w : World} {B : Nat} {v : Value} {n : Nat} {L : List Value} (h : w.ownsRow B 28 1 v n L) (q : Nat) (hq : some q = v.ownBlock) : B ≤ q := by
  obtain ⟨_, h | ⟨g, cap, cur, hv, hb, _⟩⟩ := h
  · rw [h.1] at hq; simp [Value.ownBlock] at hq
  · rw [hv] at hq; simp [Value.ownBlock] at hq; omega

theorem Fr.over {w w1 w2 : World} {B : Nat} {v : Value} {n : Nat} {L : List Value} (f : Fr none' w w1) (g : Fr (fun q => some q = v.ownBlock) w1 w2) (ho : w1.ownsRow B 28 1 v n L) (hb : w.heap.size ≤ B) : Fr none' w w2 :=
  ⟨g.os.trans f.os, g.tape.trans f.tape, g.output.trans f.output, Nat.le_trans f.size g.size, fun i hi hn => (g.block i (Nat.lt_of_lt_of_le hi f.size) (fun e => by
    have := own_high ho i e
    omega)).trans (f.block i hi hn)⟩

set_option maxRecDepth 100000 in
set_option maxHeartbeats 1000000 in
theorem joins_out (a0 : Option Addr) (n cap : Nat) (a1 : Option Addr) (m cap1 : Nat) (w : World) (hE : Env w) (h : (70 : Int) < (n : Int) ∨ (¬ (70 : Int) < (n : Int) ∧ (70 : Int) < (m : Int))) :
    Calls Tryz.prog 7 #[.slice a0 n cap, .slice a1 m cap1] w fun e w' => e = .returned (.bool true) ∧ Fr none' w w' := by
  have A := awake_any w hE
  rcases h with h1 | ⟨h1, h2⟩
  · have g1 : decide ((70 : Int) < (n : Int)) = true := decide_eq_true h1
    have g2 : decide (70 < n) = true := decide_eq_true (by omega)
    clear h1
    go_enter Tryz.func7, Tryz.ntmps7
    go_wp2_with fail
    refine A.mono ?_
    rintro e w1 ⟨rfl, f1⟩
    go_wp2_with fail
    go_ret
    exact ⟨rfl, f1⟩
  · have g1 : decide ((70 : Int) < (n : Int)) = false := decide_eq_false h1
    have g2 : decide (70 < n) = false := decide_eq_false (by omega)
    have g3 : decide ((70 : Int) < (m : Int)) = true := decide_eq_true h2
    have g4 : decide (70 < m) = true := decide_eq_true (by omega)
    clear h1 h2
    go_enter Tryz.func7, Tryz.ntmps7
    go_wp2_with fail
    refine A.mono ?_
    rintro e w1 ⟨rfl, f1⟩
    go_wp2_with fail
    go_ret
    exact ⟨rfl, f1⟩

set_option maxRecDepth 100000 in
set_option maxHeartbeats 2000000 in
theorem joins_in (a0 : Option Addr) (cap : Nat) (ws : List Nat) (a1 : Option Addr) (cap1 : Nat) (us : List Nat) (w : World) (hE : Env w) (h32 : ∀ x ∈ ws, x < 4294967296) (hus : U32s w a0 ws) (hno : a0 = none → ws = [] ∧ cap = 0) (h321 : ∀ x ∈ us, x < 4294967296) (hus1 : U32s w a1 us) (hno1 : a1 = none → us = [] ∧ cap1 = 0) (hn : ws.length ≤ 70) (hn1 : us.length ≤ 70) :
    Calls Tryz.prog 7 #[.slice a0 ws.length cap, .slice a1 us.length cap1] w fun e w' => e = .returned (.bool true) ∧ Fr none' w w' := by
  have A := awake_any w hE
  have g1 : decide ((70 : Int) < (ws.length : Int)) = false := decide_eq_false (by omega)
  have g2 : decide (70 < ws.length) = false := decide_eq_false (by omega)
  have g3 : decide ((70 : Int) < (us.length : Int)) = false := decide_eq_false (by omega)
  have g4 : decide (70 < us.length) = false := decide_eq_false (by omega)
  have hpl := print_len ws
  have hpl1 := print_len us
  have hpl2 := print_len (ws ++ us)
  rw [List.length_append] at hpl2
  have hback := asm_print 0 (by omega) (by omega) (ws ++ us) (fun x hx => by rcases List.mem_append.1 hx with h | h; exact h32 x h; exact h321 x h) (by omega)
  have a1' := add_run (printB ws) (printB us) (by omega)
  rw [print_app] at a1'
  obtain ⟨s, hs⟩ : ∃ s : ByteArray, s = ⟨(printB ws).toArray⟩ := ⟨_, rfl⟩
  obtain ⟨t, ht⟩ : ∃ s : ByteArray, s = ⟨(printB us).toArray⟩ := ⟨_, rfl⟩
  obtain ⟨st, hst⟩ : ∃ s : ByteArray, s = ⟨(printB (ws ++ us)).toArray⟩ := ⟨_, rfl⟩
  have hsl : st.data.toList = printB (ws ++ us) := by rw [hst]
  simp only [strV] at a1'
  rw [← hs, ← ht, ← hst] at a1'
  have HP := fun w hE hu => print_any a0 cap ws w hE h32 (by omega) hu
  have HP1 := fun w hE hu => print_any a1 cap1 us w hE h321 (by omega) hu
  simp only [strV, ← hs] at HP
  simp only [strV, ← ht] at HP1
  have HA := fun w hE => asmis_any 0 st w hE
  simp only [hsl, hback] at HA
  have HE := hid' hE
  have HU := hid' hus
  have HU1 := hid' hus1
  have HLL : Hid ((ws ++ us).map (fun (x : Nat) => (x : Int)) = ws.map (fun (x : Nat) => (x : Int)) ++ us.map (fun (x : Nat) => (x : Int))) := by show _ = _; simp
  have HS := fun (w : World) (v v' : Value) h h' => same_eq v v' ((ws ++ us).map (fun (x : Nat) => (x : Int))) w (by rw [List.length_map, List.length_append]; omega) h h'
  have HN := hid' (show ws.length ≤ 70 ∧ us.length ≤ 70 from ⟨hn, hn1⟩)
  obtain ⟨n0, hn0⟩ : ∃ n, ws.length = n := ⟨_, rfl⟩
  obtain ⟨n1, hn1'⟩ : ∃ n, us.length = n := ⟨_, rfl⟩
  have HLN := hid' hn0
  have HLM := hid' hn1'
  simp only [hn0] at HP g1 g2
  simp only [hn1'] at HP1 g3 g4
  rw [hn0, hn1']
  clear hE hus hus1 hn hn1 hpl hpl1 hpl2 hback hs ht hst hsl hn0 hn1'
  go_enter Tryz.func7, Tryz.ntmps7
  go_wp2_with fail
  refine A.mono ?_
  rintro e w1 ⟨rfl, f1⟩
  clear A
  go_wp2_with fail
  refine (HP _ (HE.out.keep f1) (HU.out.keep0 f1)).mono ?_
  rintro e w2 ⟨rfl, f2⟩
  replace f1 := f1.trans f2
  clear HP f2
  go_wp2_with fail
  refine (HP1 _ (HE.out.keep f1) (HU1.out.keep0 f1)).mono ?_
  rintro e w3 ⟨rfl, f3⟩
  replace f1 := f1.trans f3
  clear HP1 f3
  go_wp2_with fail
  refine (HA _ (HE.out.keep f1)).mono ?_
  rintro e w4 ⟨⟨v1, rfl, o1⟩, f4⟩
  have W1 := ws_own o1
  replace f1 := f1.trans f4
  have fa := (Fr.refl none' w4).alloc (.cells #[] 28)
  obtain ⟨va, w5, R1, g5, o5⟩ := app_ws (w4.alloc (.cells #[] 28)) w4.heap.size _ [] ws a0 cap (own_empty w4 w4.heap.size (Nat.le_refl _)) (HU.out.keep0 (f1.trans fa)) hno fa.size (by have := HN.out; simp only [List.length_nil]; omega)
  have F5 := fa.over g5 (own_empty w4 w4.heap.size (Nat.le_refl _)) (Nat.le_refl _)
  obtain ⟨vb, w6, R2, g6, o6⟩ := app_ws w5 w4.heap.size va _ us a1 cap1 o5 (HU1.out.keep0 (f1.trans F5)) hno1 F5.size (by have := HN.out; simp only [List.nil_append, List.length_map]; omega)
  have F6 := F5.over g6 o5 (Nat.le_refl _)
  replace f1 := f1.trans F6
  replace W1 := W1.keep0 F6
  have W2 := ws_row o6
  clear HA f4 o1 g5 o5 F5 g6 o6 F6 fa
  rw [HLN.out] at R1
  rw [HLM.out] at R2
  rw [List.nil_append, ← HLL.out] at W2
  go_wp2_with (at_builtin; first | refine wpList_append_runK rfl _ _ _ rfl _ _ rfl rfl _ _ R1 ?_ | refine wpList_append_runK rfl _ _ _ rfl _ _ rfl rfl _ _ R2 ?_)
  refine (HS _ v1 vb W1 W2).mono ?_
  rintro e w7 ⟨rfl, f7⟩
  replace f1 := f1.trans f7
  go_wp2_with fail
  go_ret
  exact ⟨rfl, f1⟩

theorem joinsl_any (a0 : Option Addr) (cap : Nat) (ws : List Nat) (a1 : Option Addr) (cap1 : Nat) (us : List Nat) (w : World) (hE : Env w) (h32 : ∀ x ∈ ws, x < 4294967296) (hus : U32s w a0 ws) (hno : a0 = none → ws = [] ∧ cap = 0) (h321 : ∀ x ∈ us, x < 4294967296) (hus1 : U32s w a1 us) (hno1 : a1 = none → us = [] ∧ cap1 = 0) :
    Calls Tryz.prog 7 #[.slice a0 ws.length cap, .slice a1 us.length cap1] w fun e w' => e = .returned (.bool true) ∧ Below w.heap.size w w' := by
  have H : Calls Tryz.prog 7 #[.slice a0 ws.length cap, .slice a1 us.length cap1] w fun e w' => e = .returned (.bool true) ∧ Fr none' w w' := by
    by_cases h : ws.length ≤ 70 ∧ us.length ≤ 70
    · exact joins_in a0 cap ws a1 cap1 us w hE h32 hus hno h321 hus1 hno1 h.1 h.2
    · exact joins_out a0 ws.length cap a1 us.length cap1 w hE (by omega)
  exact H.mono fun _ _ ⟨he, hf⟩ => ⟨he, hf.below (Nat.le_refl _) (fun _ h => h.elim)⟩

end Go.Proofs.YtiifadnmiambpaaGreatDoor
