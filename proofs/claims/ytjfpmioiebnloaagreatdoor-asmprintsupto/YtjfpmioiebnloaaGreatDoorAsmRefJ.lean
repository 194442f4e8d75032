/-
  viceroyref06's line against the plain one. No statement is proved here.
-/
import Derived.Test.YtjfpmioiebnloaaGreatDoorAsmAwake
import Derived.Lib.AppendStr
import Derived.Laws.IdiomStrings
import Derived.Test.YtjfpmioiebnloaaGreatDoorAsmTables
import Derived.Laws.Strings2
/- AsmBytesOwn -/
namespace Go.Proofs.YtjfpmioiebnloaaGreatDoor
open Go.RowKit

def byteV (b : UInt8) : Value := .int .u8 (b.toNat : Int)

/-- Since w0 nothing old has turned, and v is a row of the call's own that shows these bytes. -/
def OB (w0 w : World) (v : Value) (L : List UInt8) (k : Nat) : Prop := Fr none' w0 w ∧ w.ownsRow w0.heap.size 5 1 v L.length (L.map byteV) ∧ L.length ≤ k

theorem ob_nil (w : World) : OB w w (.slice none 0 0) [] 0 := ⟨Fr.refl _ _, ⟨by simp, Or.inl ⟨rfl, rfl⟩⟩, Nat.le_refl _⟩

theorem ob_high {w : World} {B : Nat} {v : Value} {n : Nat} {L : List Value} (h : w.ownsRow B 5 1 v n L) (q : Nat) (hq : some q = v.ownBlock) : B ≤ q := by
  obtain ⟨_, h | ⟨g, cap, cur, hv, hb, _⟩⟩ := h
  · rw [h.1] at hq; simp [Value.ownBlock] at hq
  · rw [hv] at hq; simp [Value.ownBlock] at hq; omega

theorem ob_fr {w0 w1 w2 : World} {v : Value} {n : Nat} {L : List Value} (f : Fr none' w0 w1) (g : Fr (fun q => some q = v.ownBlock) w1 w2) (ho : w1.ownsRow w0.heap.size 5 1 v n L) : Fr none' w0 w2 :=
  ⟨g.os.trans f.os, g.tape.trans f.tape, g.output.trans f.output, Nat.le_trans f.size g.size, fun i hi hn => (g.block i (Nat.lt_of_lt_of_le hi f.size) (fun e => by
    have := ob_high ho i e
    omega)).trans (f.block i hi hn)⟩

theorem info_u8 : (Tryz.prog.info? 5).map (fun i => (i.zero, i.size, i.bytes)) = some (some (.int .u8 0), 1, 1) := by kernel_rfl

theorem ob_str {w0 W : World} {v : Value} {L : List UInt8} {k : Nat} (hO : OB w0 W v L k) (z : ByteArray) (zs : List UInt8) (n : Nat) (hz : z.data.toList = zs) (hn : zs.length = n) (hk : k + n ≤ 1000000000) :
    ∃ v' w', (Builtin.append_ #[57, 9] 57 #[v, .string z]).run Tryz.prog W = .ok v' w' ∧ OB w0 w' v' (L ++ zs) (k + n) := by
  obtain ⟨f, ho, hl⟩ := hO
  have hi := info_u8
  cases hq : Tryz.prog.info? 5 with
  | none => simp [hq] at hi
  | some i =>
    rw [hq] at hi
    simp only [Option.map_some, Option.some.injEq, Prod.mk.injEq] at hi
    obtain ⟨hz0, hs, hby⟩ := hi
    have hsz : z.size = n := by rw [← hn, ← hz]; exact (Array.length_toList).symm
    obtain ⟨v', w', h1, h2, h3, _⟩ := Go.Lib.run_append_own_string (P := Tryz.prog) W w0.heap.size 57 9 57 5 i Tryz.underlying57 Tryz.underlying9 hq hz0 hs hby v L.length (L.map byteV) ho z (by simp only [maxLen]; omega) (by omega) f.size
    refine ⟨v', w', h1, ob_fr f (fr_of_grownK h3) ho, ?_, by rw [List.length_append]; omega⟩
    have e2 : (L ++ zs).map byteV = L.map byteV ++ Go.Lib.strCells z := by rw [List.map_append, ← hz]; rfl
    rw [e2, List.length_append, hn, ← hsz]
    exact h2

theorem ob_byte {w0 W : World} {v : Value} {L : List UInt8} {k : Nat} (hO : OB w0 W v L k) (c : UInt8) (hk : k + 1 ≤ 1000000000) :
    ∃ v' w', (Builtin.append_ #[57, 57] 57 #[v, .slice (some ⟨W.heap.size, 0, none⟩) 1 1]).run Tryz.prog (W.alloc (.cells #[.int .u8 (c.toNat : Int)] 5)) = .ok v' w' ∧ OB w0 w' v' (L ++ [c]) (k + 1) := by
  obtain ⟨f, ho, hl⟩ := hO
  have hi := info_u8
  have fa := (Fr.refl none' W).alloc (.cells #[.int .u8 (c.toNat : Int)] 5)
  have hr := row_alloc W #[.int .u8 (c.toNat : Int)] 5
  have ho' : (W.alloc (.cells #[.int .u8 (c.toNat : Int)] 5)).ownsRow w0.heap.size 5 1 v L.length (L.map byteV) := by
    obtain ⟨hl', h | ⟨g, cap, cur, hv, hb, hg, hc, hm, hs, ht⟩⟩ := ho
    · exact ⟨hl', Or.inl h⟩
    · exact ⟨hl', Or.inr ⟨g, cap, cur, hv, hb, (fa.block g (Row.lt (show Row W g cur 5 from hg)) (fun h => h)).trans hg, hc, hm, hs, ht⟩⟩
  cases hq : Tryz.prog.info? 5 with
  | none => simp [hq] at hi
  | some i =>
    rw [hq] at hi
    simp only [Option.map_some, Option.some.injEq, Prod.mk.injEq] at hi
    obtain ⟨hz0, hs, hby⟩ := hi
    obtain ⟨v', w', h1, h2, h3, _⟩ := run_append_own (P := Tryz.prog) (W.alloc (.cells #[.int .u8 (c.toNat : Int)] 5)) w0.heap.size 57 57 5 i _ 1 1 Tryz.underlying57 hq hz0 hs hby rfl (by omega) v L.length (L.map byteV) ho' ⟨W.heap.size, 0, none⟩ 1 1 [byteV c] (by simp)
      (fun j z hz => by
        rw [add_lit', hr.cell]
        match j, hz with
        | 0, hz => simpa [byteV] using hz
        | j + 1, hz => simp at hz)
      (by simp [byteV, Value.oneCell'])
      (by simp only [maxLen]; omega) (by omega) (Nat.le_trans f.size fa.size)
    refine ⟨v', w', h1, ob_fr (f.trans fa) (fr_of_grownK h3) ho', ?_, by rw [List.length_append]; simp; omega⟩
    have e2 : (L ++ [c]).map byteV = L.map byteV ++ [byteV c] := by simp
    rw [e2, List.length_append]
    exact h2

theorem ob_string {w0 W : World} {v : Value} {L : List UInt8} {k : Nat} (hO : OB w0 W v L k) : (convert 57 9 v).run Tryz.prog W = .ok (.string ⟨L.toArray⟩) W := by
  obtain ⟨f, ⟨hl, h | ⟨g, cap, cur, hv, hb, hg, hc, hm, hs, ht⟩⟩, _⟩ := hO
  · have e : L = [] := List.length_eq_zero_iff.1 h.2
    rw [h.1, e]
    simp [convert, run_underlying Tryz.underlying57, run_underlying Tryz.underlying9, Conv.bytesToString]
    rfl
  · rw [hv]
    refine run_convert_bytes_back (P := Tryz.prog) W 57 9 5 ⟨g, 0, none⟩ cap L Tryz.underlying57 Tryz.underlying5 Tryz.underlying9 fun j hj => ?_
    have hr : Row W g cur 5 := hg
    rw [add_lit', Nat.zero_add, hr.cell]
    have : (cur.toList.take (L.length * 1))[j]? = some (byteV L[j]) := by rw [ht]; simp [hj]
    rw [List.getElem?_take, if_pos (by omega)] at this
    simpa [byteV] using this

theorem wpList_append_runT {P : Program} {w : World} {ops : Array Oper} {rest : List Oper} {o : Oper} {a : Act} {Q : Exit → Act → World → Prop} (hgd : o.guard = none) (s x : Operand) (t u : TypeId)
    (ho : o.op = .call { callee := .builtin .append, args := #[s, x], argTypes := #[t, u] }) (vs vx : Value) (hs : a.eval s = vs) (hx : a.eval x = vx) (v' : Value) (w' : World)
    (hrun : (Builtin.append_ #[t, u] o.type #[vs, vx]).run P w = .ok v' w') (h : wpList P ops Q rest (a.put o.dst v') w') : wpList P ops Q (o :: rest) a w := by
  refine wpList_plain hgd fun K hK => ?_
  unfold Oper.wp
  simp [execOp, ho, resolve, invoke, builtin, hs, hx, hrun, Result.andThen]
  exact hK _ _ h

end Go.Proofs.YtjfpmioiebnloaaGreatDoor

/- AsmRefA -/
namespace Go.Proofs.YtjfpmioiebnloaaGreatDoor
open Go.RowKit

def namesV : Array Value := #[.string ⟨#[]⟩, .string ⟨#[109, 111, 118, 105]⟩, .string ⟨#[97, 100, 100]⟩, .string ⟨#[115, 117, 98]⟩, .string ⟨#[97, 110, 100]⟩, .string ⟨#[120, 111, 114]⟩, .string ⟨#[115, 104, 108]⟩, .string ⟨#[108, 100, 114]⟩, .string ⟨#[115, 116, 114]⟩, .string ⟨#[108, 100, 114, 98]⟩, .string ⟨#[115, 116, 114, 98]⟩, .string ⟨#[98, 101, 113]⟩, .string ⟨#[98, 110, 101]⟩, .string ⟨#[98, 108, 116]⟩, .string ⟨#[106, 109, 112]⟩, .string ⟨#[106, 97, 108]⟩, .string ⟨#[106, 114]⟩, .string ⟨#[104, 118, 99]⟩, .string ⟨#[115, 118, 99]⟩, .string ⟨#[109, 114, 115]⟩, .string ⟨#[109, 115, 114]⟩, .string ⟨#[119, 102, 105]⟩, .string ⟨#[105, 97, 114]⟩, .string ⟨#[101, 111, 105]⟩, .string ⟨#[116, 108, 98, 105]⟩, .string ⟨#[110, 111, 112]⟩]

set_option maxRecDepth 100000 in
theorem names_ref (w : World) : Calls Tryz.prog 28 #[] w fun e w' => e = .returned (.slice (some ⟨w.heap.size, 0, none⟩) 26 26) ∧ w' = w.alloc (.cells namesV 9) := by
  go_enter Tryz.func28, Tryz.ntmps28
  go_wp2_with fail
  go_ret
  exact ⟨rfl, rfl⟩

set_option maxRecDepth 100000 in
theorem digit_q (q : Int) (w : World) : Calls Tryz.prog 55 #[.int .u8 q] w fun e w' => e = .returned (.bool (decide (48 ≤ q) && decide (q ≤ 57))) ∧ w' = w := by
  cases g1 : decide (48 ≤ q) <;> cases g2 : decide (q ≤ 57)
  all_goals
    go_enter Tryz.func55, Tryz.ntmps55
    go_wp2_with fail
    go_ret
    exact ⟨rfl, rfl⟩

theorem digit_ref (c : UInt8) (w : World) : Calls Tryz.prog 55 #[.int .u8 (c.toNat : Int)] w fun e w' => e = .returned (.bool (isDig c)) ∧ w' = w := by
  have := digit_q (c.toNat : Int) w
  have e : (decide (48 ≤ ((c.toNat : Nat) : Int)) && decide (((c.toNat : Nat) : Int) ≤ 57)) = isDig c := by
    unfold isDig
    congr 1 <;> simp <;> omega
  rw [e] at this
  exact this

set_option maxRecDepth 100000 in
theorem wordly_q (q : Int) (w : World) : Calls Tryz.prog 32 #[.int .u8 q] w fun e w' => e = .returned (.bool ((decide (48 ≤ q) && decide (q ≤ 57)) || (decide (97 ≤ q) && decide (q ≤ 122)) || (q == 95))) ∧ w' = w := by
  have HD := digit_q q w
  cases g0 : (decide (48 ≤ q) && decide (q ≤ 57)) <;> cases g1 : decide (97 ≤ q) <;> cases g2 : decide (q ≤ 122) <;> cases g3 : (q == 95)
  all_goals
    rw [g0] at HD
    clear g0
    go_enter Tryz.func32, Tryz.ntmps32
    go_wp2_with (go_at_call 55; refine HD.mono ?_; rintro e w1 ⟨rfl, rfl⟩)
    go_ret
    exact ⟨rfl, rfl⟩

set_option maxRecDepth 100000 in
set_option maxHeartbeats 1000000 in
theorem mnemonic_ref (op : Int) (w : World) : Calls Tryz.prog 12 #[.int .i64 op] w fun e w' => e = .returned (strV (mnOf op)) ∧ Fr none' w w' := by
  have HN := names_ref w
  have fa := (Fr.refl none' w).alloc (.cells namesV 9)
  by_cases h : op < 1 ∨ 25 < op
  · have hm : mnOf op = [] := by unfold mnOf; rw [if_pos h]
    rcases h with h | h
    · have g1 : decide (op < 1) = true := decide_eq_true h
      go_enter Tryz.func12, Tryz.ntmps12
      go_wp2_with fail
      refine HN.mono ?_
      rintro e w1 ⟨rfl, rfl⟩
      go_wp2_with fail
      go_ret
      exact ⟨by rw [hm]; rfl, fa⟩
    · have g1 : decide (op < 1) = false := decide_eq_false (by omega)
      have g2 : decide (26 ≤ op) = true := decide_eq_true (by omega)
      go_enter Tryz.func12, Tryz.ntmps12
      go_wp2_with fail
      refine HN.mono ?_
      rintro e w1 ⟨rfl, rfl⟩
      go_wp2_with fail
      go_ret
      exact ⟨by rw [hm]; rfl, fa⟩
  · have hc : ∀ j x, namesV[j]? = some x → (w.alloc (.cells namesV 9)).cell? ⟨w.heap.size, j, none⟩ = some x := fun j x hx => by
      have hr := row_alloc w namesV 9
      rw [hr.cell]; exact hx
    have hop : op = 1 ∨ op = 2 ∨ op = 3 ∨ op = 4 ∨ op = 5 ∨ op = 6 ∨ op = 7 ∨ op = 8 ∨ op = 9 ∨ op = 10 ∨ op = 11 ∨ op = 12 ∨ op = 13 ∨ op = 14 ∨ op = 15 ∨ op = 16 ∨ op = 17 ∨ op = 18 ∨ op = 19 ∨ op = 20 ∨ op = 21 ∨ op = 22 ∨ op = 23 ∨ op = 24 ∨ op = 25 := by omega
    clear h
    rcases hop with rfl | rfl | rfl | rfl | rfl | rfl | rfl | rfl | rfl | rfl | rfl | rfl | rfl | rfl | rfl | rfl | rfl | rfl | rfl | rfl | rfl | rfl | rfl | rfl | rfl
    · have hx := hc 1 (.string ⟨#[109, 111, 118, 105]⟩) rfl
      go_enter Tryz.func12, Tryz.ntmps12
      go_wp2_with fail
      refine HN.mono ?_
      rintro e w1 ⟨rfl, rfl⟩
      go_wp2_with fail
      go_ret
      exact ⟨rfl, fa⟩
    · have hx := hc 2 (.string ⟨#[97, 100, 100]⟩) rfl
      go_enter Tryz.func12, Tryz.ntmps12
      go_wp2_with fail
      refine HN.mono ?_
      rintro e w1 ⟨rfl, rfl⟩
      go_wp2_with fail
      go_ret
      exact ⟨rfl, fa⟩
    · have hx := hc 3 (.string ⟨#[115, 117, 98]⟩) rfl
      go_enter Tryz.func12, Tryz.ntmps12
      go_wp2_with fail
      refine HN.mono ?_
      rintro e w1 ⟨rfl, rfl⟩
      go_wp2_with fail
      go_ret
      exact ⟨rfl, fa⟩
    · have hx := hc 4 (.string ⟨#[97, 110, 100]⟩) rfl
      go_enter Tryz.func12, Tryz.ntmps12
      go_wp2_with fail
      refine HN.mono ?_
      rintro e w1 ⟨rfl, rfl⟩
      go_wp2_with fail
      go_ret
      exact ⟨rfl, fa⟩
    · have hx := hc 5 (.string ⟨#[120, 111, 114]⟩) rfl
      go_enter Tryz.func12, Tryz.ntmps12
      go_wp2_with fail
      refine HN.mono ?_
      rintro e w1 ⟨rfl, rfl⟩
      go_wp2_with fail
      go_ret
      exact ⟨rfl, fa⟩
    · have hx := hc 6 (.string ⟨#[115, 104, 108]⟩) rfl
      go_enter Tryz.func12, Tryz.ntmps12
      go_wp2_with fail
      refine HN.mono ?_
      rintro e w1 ⟨rfl, rfl⟩
      go_wp2_with fail
      go_ret
      exact ⟨rfl, fa⟩
    · have hx := hc 7 (.string ⟨#[108, 100, 114]⟩) rfl
      go_enter Tryz.func12, Tryz.ntmps12
      go_wp2_with fail
      refine HN.mono ?_
      rintro e w1 ⟨rfl, rfl⟩
      go_wp2_with fail
      go_ret
      exact ⟨rfl, fa⟩
    · have hx := hc 8 (.string ⟨#[115, 116, 114]⟩) rfl
      go_enter Tryz.func12, Tryz.ntmps12
      go_wp2_with fail
      refine HN.mono ?_
      rintro e w1 ⟨rfl, rfl⟩
      go_wp2_with fail
      go_ret
      exact ⟨rfl, fa⟩
    · have hx := hc 9 (.string ⟨#[108, 100, 114, 98]⟩) rfl
      go_enter Tryz.func12, Tryz.ntmps12
      go_wp2_with fail
      refine HN.mono ?_
      rintro e w1 ⟨rfl, rfl⟩
      go_wp2_with fail
      go_ret
      exact ⟨rfl, fa⟩
    · have hx := hc 10 (.string ⟨#[115, 116, 114, 98]⟩) rfl
      go_enter Tryz.func12, Tryz.ntmps12
      go_wp2_with fail
      refine HN.mono ?_
      rintro e w1 ⟨rfl, rfl⟩
      go_wp2_with fail
      go_ret
      exact ⟨rfl, fa⟩
    · have hx := hc 11 (.string ⟨#[98, 101, 113]⟩) rfl
      go_enter Tryz.func12, Tryz.ntmps12
      go_wp2_with fail
      refine HN.mono ?_
      rintro e w1 ⟨rfl, rfl⟩
      go_wp2_with fail
      go_ret
      exact ⟨rfl, fa⟩
    · have hx := hc 12 (.string ⟨#[98, 110, 101]⟩) rfl
      go_enter Tryz.func12, Tryz.ntmps12
      go_wp2_with fail
      refine HN.mono ?_
      rintro e w1 ⟨rfl, rfl⟩
      go_wp2_with fail
      go_ret
      exact ⟨rfl, fa⟩
    · have hx := hc 13 (.string ⟨#[98, 108, 116]⟩) rfl
      go_enter Tryz.func12, Tryz.ntmps12
      go_wp2_with fail
      refine HN.mono ?_
      rintro e w1 ⟨rfl, rfl⟩
      go_wp2_with fail
      go_ret
      exact ⟨rfl, fa⟩
    · have hx := hc 14 (.string ⟨#[106, 109, 112]⟩) rfl
      go_enter Tryz.func12, Tryz.ntmps12
      go_wp2_with fail
      refine HN.mono ?_
      rintro e w1 ⟨rfl, rfl⟩
      go_wp2_with fail
      go_ret
      exact ⟨rfl, fa⟩
    · have hx := hc 15 (.string ⟨#[106, 97, 108]⟩) rfl
      go_enter Tryz.func12, Tryz.ntmps12
      go_wp2_with fail
      refine HN.mono ?_
      rintro e w1 ⟨rfl, rfl⟩
      go_wp2_with fail
      go_ret
      exact ⟨rfl, fa⟩
    · have hx := hc 16 (.string ⟨#[106, 114]⟩) rfl
      go_enter Tryz.func12, Tryz.ntmps12
      go_wp2_with fail
      refine HN.mono ?_
      rintro e w1 ⟨rfl, rfl⟩
      go_wp2_with fail
      go_ret
      exact ⟨rfl, fa⟩
    · have hx := hc 17 (.string ⟨#[104, 118, 99]⟩) rfl
      go_enter Tryz.func12, Tryz.ntmps12
      go_wp2_with fail
      refine HN.mono ?_
      rintro e w1 ⟨rfl, rfl⟩
      go_wp2_with fail
      go_ret
      exact ⟨rfl, fa⟩
    · have hx := hc 18 (.string ⟨#[115, 118, 99]⟩) rfl
      go_enter Tryz.func12, Tryz.ntmps12
      go_wp2_with fail
      refine HN.mono ?_
      rintro e w1 ⟨rfl, rfl⟩
      go_wp2_with fail
      go_ret
      exact ⟨rfl, fa⟩
    · have hx := hc 19 (.string ⟨#[109, 114, 115]⟩) rfl
      go_enter Tryz.func12, Tryz.ntmps12
      go_wp2_with fail
      refine HN.mono ?_
      rintro e w1 ⟨rfl, rfl⟩
      go_wp2_with fail
      go_ret
      exact ⟨rfl, fa⟩
    · have hx := hc 20 (.string ⟨#[109, 115, 114]⟩) rfl
      go_enter Tryz.func12, Tryz.ntmps12
      go_wp2_with fail
      refine HN.mono ?_
      rintro e w1 ⟨rfl, rfl⟩
      go_wp2_with fail
      go_ret
      exact ⟨rfl, fa⟩
    · have hx := hc 21 (.string ⟨#[119, 102, 105]⟩) rfl
      go_enter Tryz.func12, Tryz.ntmps12
      go_wp2_with fail
      refine HN.mono ?_
      rintro e w1 ⟨rfl, rfl⟩
      go_wp2_with fail
      go_ret
      exact ⟨rfl, fa⟩
    · have hx := hc 22 (.string ⟨#[105, 97, 114]⟩) rfl
      go_enter Tryz.func12, Tryz.ntmps12
      go_wp2_with fail
      refine HN.mono ?_
      rintro e w1 ⟨rfl, rfl⟩
      go_wp2_with fail
      go_ret
      exact ⟨rfl, fa⟩
    · have hx := hc 23 (.string ⟨#[101, 111, 105]⟩) rfl
      go_enter Tryz.func12, Tryz.ntmps12
      go_wp2_with fail
      refine HN.mono ?_
      rintro e w1 ⟨rfl, rfl⟩
      go_wp2_with fail
      go_ret
      exact ⟨rfl, fa⟩
    · have hx := hc 24 (.string ⟨#[116, 108, 98, 105]⟩) rfl
      go_enter Tryz.func12, Tryz.ntmps12
      go_wp2_with fail
      refine HN.mono ?_
      rintro e w1 ⟨rfl, rfl⟩
      go_wp2_with fail
      go_ret
      exact ⟨rfl, fa⟩
    · have hx := hc 25 (.string ⟨#[110, 111, 112]⟩) rfl
      go_enter Tryz.func12, Tryz.ntmps12
      go_wp2_with fail
      refine HN.mono ?_
      rintro e w1 ⟨rfl, rfl⟩
      go_wp2_with fail
      go_ret
      exact ⟨rfl, fa⟩

end Go.Proofs.YtjfpmioiebnloaaGreatDoor

/- AsmRefB -/
namespace Go.Proofs.YtjfpmioiebnloaaGreatDoor
open Go.RowKit

theorem conv_one (c : UInt8) (x : Int) (hx : ((c.toNat : Nat) : Int) = x) (w : World) : (convert 57 9 (.slice (some ⟨w.heap.size, 0, none⟩) 1 1)).run Tryz.prog (w.alloc (.cells #[.int .u8 x] 5)) = .ok (.string ⟨[c].toArray⟩) (w.alloc (.cells #[.int .u8 x] 5)) := by
  subst hx
  refine run_convert_bytes_back (P := Tryz.prog) _ 57 9 5 ⟨w.heap.size, 0, none⟩ 1 [c] Tryz.underlying57 Tryz.underlying5 Tryz.underlying9 fun j hj => ?_
  have hr := row_alloc w #[.int .u8 (c.toNat : Int)] 5
  obtain rfl : j = 0 := by simp at hj; omega
  rw [add_lit', hr.cell]
  simp

theorem dig_val (m : Nat) (h : m < 10) : (((UInt8.ofNat (48 + m)).toNat : Nat) : Int) = 48 + (m : Int) := by
  rw [UInt8.toNat_ofNat']
  omega

set_option maxRecDepth 100000 in
set_option maxHeartbeats 1000000 in
theorem decimal_ref (n : Nat) (hn : n ≤ 65535) (w : World) : Calls Tryz.prog 46 #[.int .i64 (n : Int)] w fun e w' => e = .returned (strV (decB n)) ∧ Fr none' w w' := by
  go_enter Tryz.func46, Tryz.ntmps46
  go_wp2_with fail
  go_loopw [0, 3] (fun nn ss wr => ∃ (m : Nat) (r : ByteArray) (l : List UInt8), nn = .int .i64 (m : Int) ∧ ss = .string r ∧ Hid (r = ⟨l.toArray⟩ ∧ decB m ++ l = decB n) ∧ m ≤ n ∧ Fr none' w wr) (fun nn _ _ => (intOf nn).toNat)
  case atStart => exact ⟨n, ⟨#[]⟩, [], rfl, rfl, hid' ⟨rfl, by simp⟩, Nat.le_refl _, Fr.refl _ _⟩
  case round =>
    obtain ⟨m, r, l, rfl, rfl, HD, hm, fk⟩ := hrel
    have hl : l.length ≤ 5 := by
      have h1 := dec_len n hn
      rw [← HD.out.2, List.length_append] at h1
      omega
    by_cases h10 : 10 ≤ m
    · have u1 : decide (10 ≤ (m : Int)) = true := decide_eq_true (by omega)
      have u2 : decide (10 ≤ m) = true := decide_eq_true h10
      have R1 := conv_one (UInt8.ofNat (48 + m % 10)) (48 + (m : Int) % 10) (by have := dig_val (m % 10) (by omega); omega) wr
      have R2 := add_run [UInt8.ofNat (48 + m % 10)] l (by simp only [List.length_cons, List.length_nil]; omega)
      obtain ⟨r1, h1⟩ : ∃ r1 : ByteArray, r1 = ⟨[UInt8.ofNat (48 + m % 10)].toArray⟩ := ⟨_, rfl⟩
      obtain ⟨r2, h2⟩ : ∃ r2 : ByteArray, r2 = ⟨([UInt8.ofNat (48 + m % 10)] ++ l).toArray⟩ := ⟨_, rfl⟩
      rw [← h1] at R1
      simp only [strV] at R2
      rw [← h1, ← h2, ← HD.out.1] at R2
      have HD' : Hid (r2 = ⟨([UInt8.ofNat (48 + m % 10)] ++ l).toArray⟩ ∧ decB (m / 10) ++ ([UInt8.ofNat (48 + m % 10)] ++ l) = decB n) := by
        refine hid' ⟨h2, ?_⟩
        rw [← HD.out.2, ← List.append_assoc]
        conv => rhs; rw [decB, dif_neg (by omega)]
      have fa := fk.alloc (.cells #[.int .u8 (48 + (m : Int) % 10)] 5)
      clear h1 h2 hl HD
      go_wp2_with fail
      go_roundw
      case rel => exact ⟨m / 10, r2, _, by go_num, rfl, HD', by omega, fa⟩
      case measure => simp [intOf]; omega
    · have u1 : decide (10 ≤ (m : Int)) = false := decide_eq_false (by omega)
      have u2 : decide (10 ≤ m) = false := decide_eq_false h10
      have R1 := conv_one (UInt8.ofNat (48 + m)) (48 + (m : Int)) (dig_val m (by omega)) wr
      have R2 := add_run [UInt8.ofNat (48 + m)] l (by simp only [List.length_cons, List.length_nil]; omega)
      obtain ⟨r1, h1⟩ : ∃ r1 : ByteArray, r1 = ⟨[UInt8.ofNat (48 + m)].toArray⟩ := ⟨_, rfl⟩
      obtain ⟨r2, h2⟩ : ∃ r2 : ByteArray, r2 = ⟨([UInt8.ofNat (48 + m)] ++ l).toArray⟩ := ⟨_, rfl⟩
      rw [← h1] at R1
      simp only [strV] at R2
      rw [← h1, ← h2, ← HD.out.1] at R2
      have HD' : Hid (r2 = ⟨(decB n).toArray⟩) := by
        refine hid' ?_
        rw [h2, ← HD.out.2]
        conv => rhs; rw [decB, dif_pos (by omega)]
      have fa := fk.alloc (.cells #[.int .u8 (48 + (m : Int))] 5)
      clear h1 h2 hl HD
      go_wp2_with fail
      go_ret
      exact ⟨by rw [HD'.out]; rfl, fa⟩

def shB : Nat → List UInt8
  | 1 => [97, 44, 105] | 2 => [97, 44, 98, 44, 99] | 3 => [97, 44, 98, 44, 105] | 4 => [105] | 5 => [98] | 6 => [98, 44, 105] | 7 => [97] | _ => []
theorem shape_sh (op : Int) (h : ¬ (7 ≤ op ∧ op ≤ 10)) : shapeB op = shB (kf op) := by
  unfold shapeB
  rw [if_neg h]
  exact kf_cases (P := fun k => (match k with | 1 => [97, 44, 105] | 2 => [97, 44, 98, 44, 99] | 3 => [97, 44, 98, 44, 105] | 4 => [105] | 5 => [98] | 6 => [98, 44, 105] | 7 => [97] | _ => ([] : List UInt8)) = shB k) op rfl rfl rfl rfl rfl rfl rfl rfl rfl

set_option maxRecDepth 100000 in
set_option maxHeartbeats 1000000 in
theorem shape_in (op : Int) (w : World) (h : 7 ≤ op ∧ op ≤ 10) : Calls Tryz.prog 35 #[.int .i64 op] w fun e w' => e = .returned (strV (shapeB op)) ∧ w' = w := by
  have hs : shapeB op = [97, 44, 91, 98, 43, 105, 93] := by unfold shapeB; rw [if_pos h]; rfl
  have g1 : decide (7 ≤ op) = true := decide_eq_true h.1
  have g2 : decide (op ≤ 10) = true := decide_eq_true h.2
  clear h
  go_enter Tryz.func35, Tryz.ntmps35
  go_wp2_with fail
  go_ret
  exact ⟨by rw [hs]; rfl, rfl⟩

set_option maxRecDepth 100000 in
set_option maxHeartbeats 2000000 in
theorem shape_k (op : Int) (k : Nat) (hk : k ≤ 8) (w : World) (hc : (decide (7 ≤ op) = true ∧ decide (op ≤ 10) = false) ∨ decide (7 ≤ op) = false) (HK : Calls Tryz.prog 44 #[.int .i64 op] w fun e w' => e = .returned (.string (fs k)) ∧ w = w') : Calls Tryz.prog 35 #[.int .i64 op] w fun e w' => e = .returned (strV (shB k)) ∧ w' = w := by
  have hk' : k = 0 ∨ k = 1 ∨ k = 2 ∨ k = 3 ∨ k = 4 ∨ k = 5 ∨ k = 6 ∨ k = 7 ∨ k = 8 := by omega
  rcases hc with ⟨g1, g2⟩ | g1 <;> rcases hk' with rfl | rfl | rfl | rfl | rfl | rfl | rfl | rfl | rfl
  all_goals
    simp only [fs] at HK
    go_enter Tryz.func35, Tryz.ntmps35
    go_wp2_with fail
    refine HK.mono ?_
    rintro e w1 ⟨rfl, rfl⟩
    go_wp2_with fail
    refine wp_loop_rounds 5 ?_
    repeat (rw [rounds_succ]; go_wp2_with fail)
    go_ret
    exact ⟨rfl, rfl⟩

theorem shape_ref (op : Int) (w : World) : Calls Tryz.prog 35 #[.int .i64 op] w fun e w' => e = .returned (strV (shapeB op)) ∧ w' = w := by
  by_cases h : 7 ≤ op ∧ op ≤ 10
  · exact shape_in op w h
  · rw [shape_sh op h]
    refine shape_k op (kf op) (kf_le op) w ?_ (rkind_any op w)
    by_cases h7 : 7 ≤ op
    · exact Or.inl ⟨decide_eq_true h7, decide_eq_false (by omega)⟩
    · exact Or.inr (decide_eq_false h7)

end Go.Proofs.YtjfpmioiebnloaaGreatDoor

/- AsmRefL -/
namespace Go.Proofs.YtjfpmioiebnloaaGreatDoor
open Go.RowKit

/-- An instruction, written so far. -/
def lineP (o a b c i : Int) (k : Nat) : List UInt8 := mnOf o ++ (if k = 0 then [] else 32 :: ((shapeB o).take k).flatMap (operB a b c i))
theorem lineP_step (o a b c i : Int) (k : Nat) (s : UInt8) (h : (shapeB o)[k]? = some s) : lineP o a b c i (k + 1) = (if k = 0 then lineP o a b c i 0 ++ [32] else lineP o a b c i k) ++ operB a b c i s := by
  unfold lineP
  rw [if_neg (by omega), List.take_add_one, h, List.flatMap_append]
  by_cases hk : k = 0
  · subst hk; simp
  · rw [if_neg hk, if_neg hk]; simp
theorem lineP_all (o a b c i : Int) : lineP o a b c i (shapeB o).length = insB o a b c i := by
  unfold lineP insB
  rw [List.take_of_length_le (Nat.le_refl _)]
  by_cases h : shapeB o = []
  · rw [h]; simp
  · rw [if_neg h, if_neg (fun e => h (List.length_eq_zero_iff.mp e))]
theorem oper_len6 (a b c i : Int) (ha : 0 ≤ a ∧ a ≤ 65535) (hb : 0 ≤ b ∧ b ≤ 65535) (hc : 0 ≤ c ∧ c ≤ 65535) (hi : 0 ≤ i ∧ i ≤ 65535) (s : UInt8) : (operB a b c i s).length ≤ 6 := by
  have h1 := dec_len a.toNat (by omega)
  have h2 := dec_len b.toNat (by omega)
  have h3 := dec_len c.toNat (by omega)
  have h4 := dec_len i.toNat (by omega)
  unfold operB regB
  repeat' split
  all_goals first | omega | (simp only [List.length_cons, List.length_nil]; omega)
theorem flat_len6 (f : UInt8 → List UInt8) (h : ∀ s, (f s).length ≤ 6) : ∀ l : List UInt8, (l.flatMap f).length ≤ 6 * l.length
  | [] => by simp
  | x :: l => by
    have := flat_len6 f h l
    have := h x
    simp only [List.flatMap_cons, List.length_append, List.length_cons]
    omega
theorem shape_set (o : Int) (s : UInt8) (h : s ∈ shapeB o) : s = 97 ∨ s = 98 ∨ s = 99 ∨ s = 105 ∨ s = 44 ∨ s = 43 ∨ s = 91 ∨ s = 93 := by
  by_cases ho : 7 ≤ o ∧ o ≤ 10
  · unfold shapeB at h
    rw [if_pos ho] at h
    simp at h
    rcases h with h | h | h | h | h | h | h <;> simp [h]
  · rw [shape_sh o ho] at h
    have key := kf_cases (P := fun k => (shB k).all (fun s => s == 97 || s == 98 || s == 99 || s == 105 || s == 44 || s == 43 || s == 91 || s == 93) = true) o (by decide) (by decide) (by decide) (by decide) (by decide) (by decide) (by decide) (by decide) (by decide)
    have := List.all_eq_true.mp key s h
    simpa [or_assoc] using this
theorem shape_len (o : Int) : (shapeB o).length ≤ 7 := by
  by_cases ho : 7 ≤ o ∧ o ≤ 10
  · unfold shapeB; rw [if_pos ho]; simp
  · rw [shape_sh o ho]
    exact kf_cases (P := fun k => (shB k).length ≤ 7) o (by decide) (by decide) (by decide) (by decide) (by decide) (by decide) (by decide) (by decide) (by decide)

theorem lineP_len (o a b c i : Int) (ha : 0 ≤ a ∧ a ≤ 65535) (hb : 0 ≤ b ∧ b ≤ 65535) (hc : 0 ≤ c ∧ c ≤ 65535) (hi : 0 ≤ i ∧ i ≤ 65535) (k : Nat) : (lineP o a b c i k).length ≤ 200 := by
  have h1 := flat_len6 (operB a b c i) (oper_len6 a b c i ha hb hc hi) ((shapeB o).take k)
  have h2 := shape_len o
  have h3 : ((shapeB o).take k).length ≤ 7 := by rw [List.length_take]; omega
  have h4 : (mnOf o).length ≤ 10 := by
    unfold mnOf
    split
    · simp
    · have key : ∀ j : Fin 26, (mnemo.getD j.val []).length ≤ 10 := by decide
      rename_i h
      exact key ⟨o.toNat - 1, by omega⟩
  unfold lineP
  rw [List.length_append]
  split
  · simp only [List.length_nil]; omega
  · simp only [List.length_cons]; omega

theorem sidx_run (s : ByteArray) (k : Nat) (c : UInt8) (hc : s.data.toList[k]? = some c) (q : Int) (hq : ((c.toNat : Nat) : Int) = q) (w : World) : (Instr.index 9 (.string s) (.int .i64 (k : Int))).run Tryz.prog w = .ok (.int .u8 q) w := by
  have h : k < s.size := by
    rcases Nat.lt_or_ge k s.size with h | h
    · exact h
    · rw [List.getElem?_eq_none (by rw [Array.length_toList]; exact h)] at hc; cases hc
  rw [run_index_string w 9 s .i64 (k : Int) Tryz.underlying9, dif_pos ⟨by omega, by omega⟩, ← hq]
  have h' : k < s.data.size := h
  rw [Array.getElem?_toList, Array.getElem?_eq_getElem h'] at hc
  have hc' : s.data[k] = c := Option.some.inj hc
  have : (s[((k : Int)).toNat]'(by simpa using h)) = c := by rw [← hc']; rfl
  rw [this]

theorem sslice_run (s : ByteArray) (k : Nat) (c : UInt8) (hc : s.data.toList[k]? = some c) (w : World) : (Instr.sliceAt 9 (.string s) (some (.int .i64 (k : Int))) (some (.int .i64 ((k : Int) + 1))) none).run Tryz.prog w = .ok (.string ⟨[c].toArray⟩) w := by
  have h : k < s.size := by
    rcases Nat.lt_or_ge k s.size with h | h
    · exact h
    · rw [List.getElem?_eq_none (by rw [Array.length_toList]; exact h)] at hc; cases hc
  rw [run_sliceAt_string w 9 _ _ _ _ Tryz.underlying9, run_slice_string w 9 s .i64 .i64 (k : Int) ((k : Int) + 1) Tryz.underlying9 (by omega) (by omega) (by omega)]
  obtain ⟨⟨l⟩⟩ := s
  rw [show ((k : Int) + 1).toNat = k + 1 by omega, show ((k : Int)).toNat = k by omega, ByteArray.extract_mk]
  have hc' : l[k]? = some c := hc
  have hk : k < l.length := h
  rw [List.drop_eq_getElem_cons hk, show k + 1 - k = 1 by omega, List.take_succ_cons, List.take_zero]
  rw [List.getElem?_eq_getElem hk] at hc'
  rw [Option.some.inj hc']

set_option maxRecDepth 100000 in
set_option maxHeartbeats 4000000 in
theorem line_ref (o a b c i : Int) (ha : 0 ≤ a ∧ a ≤ 65535) (hb : 0 ≤ b ∧ b ≤ 65535) (hc : 0 ≤ c ∧ c ≤ 65535) (hi : 0 ≤ i ∧ i ≤ 65535) (w : World) :
    Calls Tryz.prog 25 #[.agg #[.int .i64 o, .int .i64 a, .int .i64 b, .int .i64 c, .int .i64 i]] w fun e w' => e = .returned (strV (insB o a b c i)) ∧ Fr none' w w' := by
  have f0 := (Fr.refl none' w).alloc (.cells #[.int .i64 o, .int .i64 a, .int .i64 b, .int .i64 c, .int .i64 i] 48)
  have r0 := row_alloc w #[.int .i64 o, .int .i64 a, .int .i64 b, .int .i64 c, .int .i64 i] 48
  have HM := mnemonic_ref o (w.alloc (.cells #[.int .i64 o, .int .i64 a, .int .i64 b, .int .i64 c, .int .i64 i] 48))
  obtain ⟨m0, hm0⟩ : ∃ m0 : ByteArray, m0 = ⟨(mnOf o).toArray⟩ := ⟨_, rfl⟩
  obtain ⟨ss, hss⟩ : ∃ ss : ByteArray, ss = ⟨(shapeB o).toArray⟩ := ⟨_, rfl⟩
  have HSh := fun W => shape_ref o W
  simp only [strV] at HM HSh
  rw [← hm0] at HM
  rw [← hss] at HSh
  have hsl := shape_len o
  have hml : (mnOf o).length ≤ 10 := by
    unfold mnOf
    split
    · simp
    · have key : ∀ j : Fin 26, (mnemo.getD j.val []).length ≤ 10 := by decide
      rename_i h
      exact key ⟨o.toNat - 1, by omega⟩
  have HSS : Hid (ss.data.toList = shapeB o) := by show _ = _; rw [hss]
  have hn : ss.size = (shapeB o).length := by rw [hss]; simp [ByteArray.size]
  obtain ⟨n, hnn⟩ : ∃ n, n = (shapeB o).length := ⟨_, rfl⟩
  rw [← hnn] at hn hsl
  have HN : Hid (n = (shapeB o).length) := hnn
  have HM0 : Hid (m0 = ⟨(mnOf o).toArray⟩ ∧ (mnOf o).length ≤ 10) := ⟨hm0, hml⟩
  clear hss hnn hm0 hml
  go_enter Tryz.func25, Tryz.ntmps25
  go_wp2_with fail
  refine HM.mono ?_
  rintro e w1 ⟨rfl, f1⟩
  have r1 := r0.keep f1 (fun h => h)
  have F1 := f0.trans f1
  have c0 := r1.cell 0
  clear HM f1 f0 r0
  go_wp2_with fail
  refine (HSh _).mono ?_
  rintro e w2 ⟨rfl, rfl⟩
  clear HSh c0
  go_wp2_with fail
  go_loopw [3, 5] (fun t j wr => ∃ (k : Nat) (r : ByteArray), k ≤ n ∧ j = .int .i64 k ∧ t = .string r ∧ Hid (r = ⟨(lineP o a b c i k).toArray⟩) ∧ Fr none' w wr ∧ Row wr w.heap.size #[.int .i64 o, .int .i64 a, .int .i64 b, .int .i64 c, .int .i64 i] 48) (fun _ j _ => n - (intOf j).toNat)
  case atStart => exact ⟨0, m0, by omega, rfl, rfl, by show _ = _; rw [HM0.out.1]; simp [lineP], F1, r1⟩
  case round =>
    clear F1 r1
    obtain ⟨k, r, hk, rfl, rfl, HRk, fk, rk⟩ := hrel
    by_cases hlt : k < n
    · obtain ⟨l, hl⟩ : ∃ l, l = lineP o a b c i k := ⟨_, rfl⟩
      have HR : Hid (r = ⟨l.toArray⟩ ∧ l = lineP o a b c i k) := ⟨by rw [hl]; exact HRk.out, hl⟩
      have hll : l.length ≤ 200 := by rw [hl]; exact lineP_len o a b c i ha hb hc hi k
      have HL0 : Hid (l = lineP o a b c i k) := hl
      obtain ⟨s, hs⟩ : ∃ s, (shapeB o)[k]? = some s := ⟨_, List.getElem?_eq_getElem (by rw [← HN.out]; exact hlt)⟩
      have HS : Hid ((shapeB o)[k]? = some s) := hs
      have HC : Hid (ss.data.toList[k]? = some s) := by show _ = _; rw [HSS.out]; exact hs
      have hset := shape_set o s (List.mem_of_getElem? hs)
      have c0 := rk.cell 0
      have c1 := rk.cell 1
      have c2 := rk.cell 2
      have c3 := rk.cell 3
      have c4 := rk.cell 4
      have u1 : decide ((k : Int) < (n : Int)) = true := decide_eq_true (by omega)
      have u2 : decide (k < n) = true := decide_eq_true hlt
      clear hl hs HRk
      by_cases hk0 : k = 0
      · have v1 : ((k : Int) == 0) = true := by simpa using hk0
        have v2 : (k == 0) = true := by simpa using hk0
        replace HL0 : Hid (l = lineP o a b c i 0) := by show _ = _; rw [HL0.out, hk0]
        rcases hset with rfl | rfl | rfl | rfl | rfl | rfl | rfl | rfl
        · have hop : operB a b c i 97 = regB a := rfl
          have hi : ∀ w, (Instr.index 9 (.string ss) (.int .i64 (k : Int))).run Tryz.prog w = .ok (.int .u8 97) w := fun w => sidx_run ss k 97 HC.out 97 rfl w
          have R0 := add_run l [32] (by simp only [List.length_cons, List.length_nil]; omega)
          obtain ⟨r0, h0⟩ : ∃ r0 : ByteArray, r0 = ⟨(l ++ [32]).toArray⟩ := ⟨_, rfl⟩
          simp only [strV] at R0
          rw [← h0, ← HR.out.1] at R0
          have hdl := dec_len a.toNat (by omega)
          have HD := fun W => decimal_ref a.toNat (by omega) W
          rw [show ((a.toNat : Nat) : Int) = a by omega] at HD
          obtain ⟨d, hd⟩ : ∃ d : ByteArray, d = ⟨(decB a.toNat).toArray⟩ := ⟨_, rfl⟩
          simp only [strV] at HD
          rw [← hd] at HD
          have R1 := add_run (l ++ [32]) [114] (by first | omega | (simp only [List.length_cons, List.length_nil]; omega) | (simp only [List.length_append, List.length_cons, List.length_nil]; omega))
          obtain ⟨r1, h1⟩ : ∃ r1 : ByteArray, r1 = ⟨((l ++ [32]) ++ [114]).toArray⟩ := ⟨_, rfl⟩
          simp only [strV] at R1
          rw [← h1, ← h0] at R1
          have R2 := add_run ((l ++ [32]) ++ [114]) (decB a.toNat) (by first | omega | (simp only [List.length_cons, List.length_nil]; omega) | (simp only [List.length_append, List.length_cons, List.length_nil]; omega))
          obtain ⟨r2, h2⟩ : ∃ r2 : ByteArray, r2 = ⟨(((l ++ [32]) ++ [114]) ++ (decB a.toNat)).toArray⟩ := ⟨_, rfl⟩
          simp only [strV] at R2
          rw [← h2, ← h1, ← hd] at R2
          have HR2 : Hid (r2 = ⟨(lineP o a b c i (k + 1)).toArray⟩) := by
            show _ = _
            rw [h2, lineP_step o a b c i k 97 HS.out, hop, if_pos hk0, ← HL0.out]
            simp [regB]
          clear h2 hop h1 hd h0 hk0
          go_wp2_with fail
          refine (HD _).mono ?_
          rintro e w2 ⟨rfl, f2⟩
          have F2 := fk.trans f2
          have r2' := rk.keep f2 (fun h => h)
          clear HD f2 fk rk c0 c1 c2 c3 c4
          go_wp2_with fail
          go_roundw
          case rel => exact ⟨k + 1, r2, by omega, by go_num, rfl, HR2, F2, r2'⟩
          case measure => simp [intOf]; omega
        · have hop : operB a b c i 98 = regB b := rfl
          have hi : ∀ w, (Instr.index 9 (.string ss) (.int .i64 (k : Int))).run Tryz.prog w = .ok (.int .u8 98) w := fun w => sidx_run ss k 98 HC.out 98 rfl w
          have R0 := add_run l [32] (by simp only [List.length_cons, List.length_nil]; omega)
          obtain ⟨r0, h0⟩ : ∃ r0 : ByteArray, r0 = ⟨(l ++ [32]).toArray⟩ := ⟨_, rfl⟩
          simp only [strV] at R0
          rw [← h0, ← HR.out.1] at R0
          have hdl := dec_len b.toNat (by omega)
          have HD := fun W => decimal_ref b.toNat (by omega) W
          rw [show ((b.toNat : Nat) : Int) = b by omega] at HD
          obtain ⟨d, hd⟩ : ∃ d : ByteArray, d = ⟨(decB b.toNat).toArray⟩ := ⟨_, rfl⟩
          simp only [strV] at HD
          rw [← hd] at HD
          have R1 := add_run (l ++ [32]) [114] (by first | omega | (simp only [List.length_cons, List.length_nil]; omega) | (simp only [List.length_append, List.length_cons, List.length_nil]; omega))
          obtain ⟨r1, h1⟩ : ∃ r1 : ByteArray, r1 = ⟨((l ++ [32]) ++ [114]).toArray⟩ := ⟨_, rfl⟩
          simp only [strV] at R1
          rw [← h1, ← h0] at R1
          have R2 := add_run ((l ++ [32]) ++ [114]) (decB b.toNat) (by first | omega | (simp only [List.length_cons, List.length_nil]; omega) | (simp only [List.length_append, List.length_cons, List.length_nil]; omega))
          obtain ⟨r2, h2⟩ : ∃ r2 : ByteArray, r2 = ⟨(((l ++ [32]) ++ [114]) ++ (decB b.toNat)).toArray⟩ := ⟨_, rfl⟩
          simp only [strV] at R2
          rw [← h2, ← h1, ← hd] at R2
          have HR2 : Hid (r2 = ⟨(lineP o a b c i (k + 1)).toArray⟩) := by
            show _ = _
            rw [h2, lineP_step o a b c i k 98 HS.out, hop, if_pos hk0, ← HL0.out]
            simp [regB]
          clear h2 hop h1 hd h0 hk0
          go_wp2_with fail
          refine (HD _).mono ?_
          rintro e w2 ⟨rfl, f2⟩
          have F2 := fk.trans f2
          have r2' := rk.keep f2 (fun h => h)
          clear HD f2 fk rk c0 c1 c2 c3 c4
          go_wp2_with fail
          go_roundw
          case rel => exact ⟨k + 1, r2, by omega, by go_num, rfl, HR2, F2, r2'⟩
          case measure => simp [intOf]; omega
        · have hop : operB a b c i 99 = regB c := rfl
          have hi : ∀ w, (Instr.index 9 (.string ss) (.int .i64 (k : Int))).run Tryz.prog w = .ok (.int .u8 99) w := fun w => sidx_run ss k 99 HC.out 99 rfl w
          have R0 := add_run l [32] (by simp only [List.length_cons, List.length_nil]; omega)
          obtain ⟨r0, h0⟩ : ∃ r0 : ByteArray, r0 = ⟨(l ++ [32]).toArray⟩ := ⟨_, rfl⟩
          simp only [strV] at R0
          rw [← h0, ← HR.out.1] at R0
          have hdl := dec_len c.toNat (by omega)
          have HD := fun W => decimal_ref c.toNat (by omega) W
          rw [show ((c.toNat : Nat) : Int) = c by omega] at HD
          obtain ⟨d, hd⟩ : ∃ d : ByteArray, d = ⟨(decB c.toNat).toArray⟩ := ⟨_, rfl⟩
          simp only [strV] at HD
          rw [← hd] at HD
          have R1 := add_run (l ++ [32]) [114] (by first | omega | (simp only [List.length_cons, List.length_nil]; omega) | (simp only [List.length_append, List.length_cons, List.length_nil]; omega))
          obtain ⟨r1, h1⟩ : ∃ r1 : ByteArray, r1 = ⟨((l ++ [32]) ++ [114]).toArray⟩ := ⟨_, rfl⟩
          simp only [strV] at R1
          rw [← h1, ← h0] at R1
          have R2 := add_run ((l ++ [32]) ++ [114]) (decB c.toNat) (by first | omega | (simp only [List.length_cons, List.length_nil]; omega) | (simp only [List.length_append, List.length_cons, List.length_nil]; omega))
          obtain ⟨r2, h2⟩ : ∃ r2 : ByteArray, r2 = ⟨(((l ++ [32]) ++ [114]) ++ (decB c.toNat)).toArray⟩ := ⟨_, rfl⟩
          simp only [strV] at R2
          rw [← h2, ← h1, ← hd] at R2
          have HR2 : Hid (r2 = ⟨(lineP o a b c i (k + 1)).toArray⟩) := by
            show _ = _
            rw [h2, lineP_step o a b c i k 99 HS.out, hop, if_pos hk0, ← HL0.out]
            simp [regB]
          clear h2 hop h1 hd h0 hk0
          go_wp2_with fail
          refine (HD _).mono ?_
          rintro e w2 ⟨rfl, f2⟩
          have F2 := fk.trans f2
          have r2' := rk.keep f2 (fun h => h)
          clear HD f2 fk rk c0 c1 c2 c3 c4
          go_wp2_with fail
          go_roundw
          case rel => exact ⟨k + 1, r2, by omega, by go_num, rfl, HR2, F2, r2'⟩
          case measure => simp [intOf]; omega
        · have hop : operB a b c i 105 = decB i.toNat := rfl
          have hi : ∀ w, (Instr.index 9 (.string ss) (.int .i64 (k : Int))).run Tryz.prog w = .ok (.int .u8 105) w := fun w => sidx_run ss k 105 HC.out 105 rfl w
          have R0 := add_run l [32] (by simp only [List.length_cons, List.length_nil]; omega)
          obtain ⟨r0, h0⟩ : ∃ r0 : ByteArray, r0 = ⟨(l ++ [32]).toArray⟩ := ⟨_, rfl⟩
          simp only [strV] at R0
          rw [← h0, ← HR.out.1] at R0
          have hdl := dec_len i.toNat (by omega)
          have HD := fun W => decimal_ref i.toNat (by omega) W
          rw [show ((i.toNat : Nat) : Int) = i by omega] at HD
          obtain ⟨d, hd⟩ : ∃ d : ByteArray, d = ⟨(decB i.toNat).toArray⟩ := ⟨_, rfl⟩
          simp only [strV] at HD
          rw [← hd] at HD
          have R2 := add_run (l ++ [32]) (decB i.toNat) (by first | omega | (simp only [List.length_cons, List.length_nil]; omega) | (simp only [List.length_append, List.length_cons, List.length_nil]; omega))
          obtain ⟨r2, h2⟩ : ∃ r2 : ByteArray, r2 = ⟨((l ++ [32]) ++ (decB i.toNat)).toArray⟩ := ⟨_, rfl⟩
          simp only [strV] at R2
          rw [← h2, ← h0, ← hd] at R2
          have HR2 : Hid (r2 = ⟨(lineP o a b c i (k + 1)).toArray⟩) := by
            show _ = _
            rw [h2, lineP_step o a b c i k 105 HS.out, hop, if_pos hk0, ← HL0.out]
          clear h2 hop hd h0 hk0
          go_wp2_with fail
          refine (HD _).mono ?_
          rintro e w2 ⟨rfl, f2⟩
          have F2 := fk.trans f2
          have r2' := rk.keep f2 (fun h => h)
          clear HD f2 fk rk c0 c1 c2 c3 c4
          go_wp2_with fail
          go_roundw
          case rel => exact ⟨k + 1, r2, by omega, by go_num, rfl, HR2, F2, r2'⟩
          case measure => simp [intOf]; omega
        · have hop : operB a b c i 44 = [44, 32] := rfl
          have hi : ∀ w, (Instr.index 9 (.string ss) (.int .i64 (k : Int))).run Tryz.prog w = .ok (.int .u8 44) w := fun w => sidx_run ss k 44 HC.out 44 rfl w
          have R0 := add_run l [32] (by simp only [List.length_cons, List.length_nil]; omega)
          obtain ⟨r0, h0⟩ : ∃ r0 : ByteArray, r0 = ⟨(l ++ [32]).toArray⟩ := ⟨_, rfl⟩
          simp only [strV] at R0
          rw [← h0, ← HR.out.1] at R0
          have R2 := add_run (l ++ [32]) [44, 32] (by first | omega | (simp only [List.length_cons, List.length_nil]; omega) | (simp only [List.length_append, List.length_cons, List.length_nil]; omega))
          obtain ⟨r2, h2⟩ : ∃ r2 : ByteArray, r2 = ⟨((l ++ [32]) ++ [44, 32]).toArray⟩ := ⟨_, rfl⟩
          simp only [strV] at R2
          rw [← h2, ← h0] at R2
          have HR2 : Hid (r2 = ⟨(lineP o a b c i (k + 1)).toArray⟩) := by
            show _ = _
            rw [h2, lineP_step o a b c i k 44 HS.out, hop, if_pos hk0, ← HL0.out]
          clear h2 hop h0 hk0
          go_wp2_with fail
          go_roundw
          case rel => exact ⟨k + 1, r2, by omega, by go_num, rfl, HR2, fk, rk⟩
          case measure => simp [intOf]; omega
        · have hop : operB a b c i 43 = [32, 43, 32] := rfl
          have hi : ∀ w, (Instr.index 9 (.string ss) (.int .i64 (k : Int))).run Tryz.prog w = .ok (.int .u8 43) w := fun w => sidx_run ss k 43 HC.out 43 rfl w
          have R0 := add_run l [32] (by simp only [List.length_cons, List.length_nil]; omega)
          obtain ⟨r0, h0⟩ : ∃ r0 : ByteArray, r0 = ⟨(l ++ [32]).toArray⟩ := ⟨_, rfl⟩
          simp only [strV] at R0
          rw [← h0, ← HR.out.1] at R0
          have R2 := add_run (l ++ [32]) [32, 43, 32] (by first | omega | (simp only [List.length_cons, List.length_nil]; omega) | (simp only [List.length_append, List.length_cons, List.length_nil]; omega))
          obtain ⟨r2, h2⟩ : ∃ r2 : ByteArray, r2 = ⟨((l ++ [32]) ++ [32, 43, 32]).toArray⟩ := ⟨_, rfl⟩
          simp only [strV] at R2
          rw [← h2, ← h0] at R2
          have HR2 : Hid (r2 = ⟨(lineP o a b c i (k + 1)).toArray⟩) := by
            show _ = _
            rw [h2, lineP_step o a b c i k 43 HS.out, hop, if_pos hk0, ← HL0.out]
          clear h2 hop h0 hk0
          go_wp2_with fail
          go_roundw
          case rel => exact ⟨k + 1, r2, by omega, by go_num, rfl, HR2, fk, rk⟩
          case measure => simp [intOf]; omega
        · have hop : operB a b c i 91 = [91] := rfl
          have hi : ∀ w, (Instr.index 9 (.string ss) (.int .i64 (k : Int))).run Tryz.prog w = .ok (.int .u8 91) w := fun w => sidx_run ss k 91 HC.out 91 rfl w
          have R0 := add_run l [32] (by simp only [List.length_cons, List.length_nil]; omega)
          obtain ⟨r0, h0⟩ : ∃ r0 : ByteArray, r0 = ⟨(l ++ [32]).toArray⟩ := ⟨_, rfl⟩
          simp only [strV] at R0
          rw [← h0, ← HR.out.1] at R0
          have R2 := add_run (l ++ [32]) [91] (by first | omega | (simp only [List.length_cons, List.length_nil]; omega) | (simp only [List.length_append, List.length_cons, List.length_nil]; omega))
          obtain ⟨r2, h2⟩ : ∃ r2 : ByteArray, r2 = ⟨((l ++ [32]) ++ [91]).toArray⟩ := ⟨_, rfl⟩
          simp only [strV] at R2
          rw [← h2, ← h0] at R2
          have hsl : ∀ w, (Instr.sliceAt 9 (.string ss) (some (.int .i64 (k : Int))) (some (.int .i64 ((k : Int) + 1))) none).run Tryz.prog w = .ok (.string ⟨#[91]⟩) w := fun w => sslice_run ss k 91 HC.out w
          have HR2 : Hid (r2 = ⟨(lineP o a b c i (k + 1)).toArray⟩) := by
            show _ = _
            rw [h2, lineP_step o a b c i k 91 HS.out, hop, if_pos hk0, ← HL0.out]
          clear h2 hop h0 hk0
          go_wp2_with fail
          go_roundw
          case rel => exact ⟨k + 1, r2, by omega, by go_num, rfl, HR2, fk, rk⟩
          case measure => simp [intOf]; omega
        · have hop : operB a b c i 93 = [93] := rfl
          have hi : ∀ w, (Instr.index 9 (.string ss) (.int .i64 (k : Int))).run Tryz.prog w = .ok (.int .u8 93) w := fun w => sidx_run ss k 93 HC.out 93 rfl w
          have R0 := add_run l [32] (by simp only [List.length_cons, List.length_nil]; omega)
          obtain ⟨r0, h0⟩ : ∃ r0 : ByteArray, r0 = ⟨(l ++ [32]).toArray⟩ := ⟨_, rfl⟩
          simp only [strV] at R0
          rw [← h0, ← HR.out.1] at R0
          have R2 := add_run (l ++ [32]) [93] (by first | omega | (simp only [List.length_cons, List.length_nil]; omega) | (simp only [List.length_append, List.length_cons, List.length_nil]; omega))
          obtain ⟨r2, h2⟩ : ∃ r2 : ByteArray, r2 = ⟨((l ++ [32]) ++ [93]).toArray⟩ := ⟨_, rfl⟩
          simp only [strV] at R2
          rw [← h2, ← h0] at R2
          have hsl : ∀ w, (Instr.sliceAt 9 (.string ss) (some (.int .i64 (k : Int))) (some (.int .i64 ((k : Int) + 1))) none).run Tryz.prog w = .ok (.string ⟨#[93]⟩) w := fun w => sslice_run ss k 93 HC.out w
          have HR2 : Hid (r2 = ⟨(lineP o a b c i (k + 1)).toArray⟩) := by
            show _ = _
            rw [h2, lineP_step o a b c i k 93 HS.out, hop, if_pos hk0, ← HL0.out]
          clear h2 hop h0 hk0
          go_wp2_with fail
          go_roundw
          case rel => exact ⟨k + 1, r2, by omega, by go_num, rfl, HR2, fk, rk⟩
          case measure => simp [intOf]; omega
      · have v1 : ((k : Int) == 0) = false := by simp; omega
        have v2 : (k == 0) = false := by simpa using hk0
        rcases hset with rfl | rfl | rfl | rfl | rfl | rfl | rfl | rfl
        · have hop : operB a b c i 97 = regB a := rfl
          have hi : ∀ w, (Instr.index 9 (.string ss) (.int .i64 (k : Int))).run Tryz.prog w = .ok (.int .u8 97) w := fun w => sidx_run ss k 97 HC.out 97 rfl w
          have hdl := dec_len a.toNat (by omega)
          have HD := fun W => decimal_ref a.toNat (by omega) W
          rw [show ((a.toNat : Nat) : Int) = a by omega] at HD
          obtain ⟨d, hd⟩ : ∃ d : ByteArray, d = ⟨(decB a.toNat).toArray⟩ := ⟨_, rfl⟩
          simp only [strV] at HD
          rw [← hd] at HD
          have R1 := add_run l [114] (by first | omega | (simp only [List.length_cons, List.length_nil]; omega) | (simp only [List.length_append, List.length_cons, List.length_nil]; omega))
          obtain ⟨r1, h1⟩ : ∃ r1 : ByteArray, r1 = ⟨(l ++ [114]).toArray⟩ := ⟨_, rfl⟩
          simp only [strV] at R1
          rw [← h1, ← HR.out.1] at R1
          have R2 := add_run (l ++ [114]) (decB a.toNat) (by first | omega | (simp only [List.length_cons, List.length_nil]; omega) | (simp only [List.length_append, List.length_cons, List.length_nil]; omega))
          obtain ⟨r2, h2⟩ : ∃ r2 : ByteArray, r2 = ⟨((l ++ [114]) ++ (decB a.toNat)).toArray⟩ := ⟨_, rfl⟩
          simp only [strV] at R2
          rw [← h2, ← h1, ← hd] at R2
          have HR2 : Hid (r2 = ⟨(lineP o a b c i (k + 1)).toArray⟩) := by
            show _ = _
            rw [h2, lineP_step o a b c i k 97 HS.out, hop, if_neg hk0, ← HR.out.2]
            simp [regB]
          clear h2 hop h1 hd hk0
          go_wp2_with fail
          refine (HD _).mono ?_
          rintro e w2 ⟨rfl, f2⟩
          have F2 := fk.trans f2
          have r2' := rk.keep f2 (fun h => h)
          clear HD f2 fk rk c0 c1 c2 c3 c4
          go_wp2_with fail
          go_roundw
          case rel => exact ⟨k + 1, r2, by omega, by go_num, rfl, HR2, F2, r2'⟩
          case measure => simp [intOf]; omega
        · have hop : operB a b c i 98 = regB b := rfl
          have hi : ∀ w, (Instr.index 9 (.string ss) (.int .i64 (k : Int))).run Tryz.prog w = .ok (.int .u8 98) w := fun w => sidx_run ss k 98 HC.out 98 rfl w
          have hdl := dec_len b.toNat (by omega)
          have HD := fun W => decimal_ref b.toNat (by omega) W
          rw [show ((b.toNat : Nat) : Int) = b by omega] at HD
          obtain ⟨d, hd⟩ : ∃ d : ByteArray, d = ⟨(decB b.toNat).toArray⟩ := ⟨_, rfl⟩
          simp only [strV] at HD
          rw [← hd] at HD
          have R1 := add_run l [114] (by first | omega | (simp only [List.length_cons, List.length_nil]; omega) | (simp only [List.length_append, List.length_cons, List.length_nil]; omega))
          obtain ⟨r1, h1⟩ : ∃ r1 : ByteArray, r1 = ⟨(l ++ [114]).toArray⟩ := ⟨_, rfl⟩
          simp only [strV] at R1
          rw [← h1, ← HR.out.1] at R1
          have R2 := add_run (l ++ [114]) (decB b.toNat) (by first | omega | (simp only [List.length_cons, List.length_nil]; omega) | (simp only [List.length_append, List.length_cons, List.length_nil]; omega))
          obtain ⟨r2, h2⟩ : ∃ r2 : ByteArray, r2 = ⟨((l ++ [114]) ++ (decB b.toNat)).toArray⟩ := ⟨_, rfl⟩
          simp only [strV] at R2
          rw [← h2, ← h1, ← hd] at R2
          have HR2 : Hid (r2 = ⟨(lineP o a b c i (k + 1)).toArray⟩) := by
            show _ = _
            rw [h2, lineP_step o a b c i k 98 HS.out, hop, if_neg hk0, ← HR.out.2]
            simp [regB]
          clear h2 hop h1 hd hk0
          go_wp2_with fail
          refine (HD _).mono ?_
          rintro e w2 ⟨rfl, f2⟩
          have F2 := fk.trans f2
          have r2' := rk.keep f2 (fun h => h)
          clear HD f2 fk rk c0 c1 c2 c3 c4
          go_wp2_with fail
          go_roundw
          case rel => exact ⟨k + 1, r2, by omega, by go_num, rfl, HR2, F2, r2'⟩
          case measure => simp [intOf]; omega
        · have hop : operB a b c i 99 = regB c := rfl
          have hi : ∀ w, (Instr.index 9 (.string ss) (.int .i64 (k : Int))).run Tryz.prog w = .ok (.int .u8 99) w := fun w => sidx_run ss k 99 HC.out 99 rfl w
          have hdl := dec_len c.toNat (by omega)
          have HD := fun W => decimal_ref c.toNat (by omega) W
          rw [show ((c.toNat : Nat) : Int) = c by omega] at HD
          obtain ⟨d, hd⟩ : ∃ d : ByteArray, d = ⟨(decB c.toNat).toArray⟩ := ⟨_, rfl⟩
          simp only [strV] at HD
          rw [← hd] at HD
          have R1 := add_run l [114] (by first | omega | (simp only [List.length_cons, List.length_nil]; omega) | (simp only [List.length_append, List.length_cons, List.length_nil]; omega))
          obtain ⟨r1, h1⟩ : ∃ r1 : ByteArray, r1 = ⟨(l ++ [114]).toArray⟩ := ⟨_, rfl⟩
          simp only [strV] at R1
          rw [← h1, ← HR.out.1] at R1
          have R2 := add_run (l ++ [114]) (decB c.toNat) (by first | omega | (simp only [List.length_cons, List.length_nil]; omega) | (simp only [List.length_append, List.length_cons, List.length_nil]; omega))
          obtain ⟨r2, h2⟩ : ∃ r2 : ByteArray, r2 = ⟨((l ++ [114]) ++ (decB c.toNat)).toArray⟩ := ⟨_, rfl⟩
          simp only [strV] at R2
          rw [← h2, ← h1, ← hd] at R2
          have HR2 : Hid (r2 = ⟨(lineP o a b c i (k + 1)).toArray⟩) := by
            show _ = _
            rw [h2, lineP_step o a b c i k 99 HS.out, hop, if_neg hk0, ← HR.out.2]
            simp [regB]
          clear h2 hop h1 hd hk0
          go_wp2_with fail
          refine (HD _).mono ?_
          rintro e w2 ⟨rfl, f2⟩
          have F2 := fk.trans f2
          have r2' := rk.keep f2 (fun h => h)
          clear HD f2 fk rk c0 c1 c2 c3 c4
          go_wp2_with fail
          go_roundw
          case rel => exact ⟨k + 1, r2, by omega, by go_num, rfl, HR2, F2, r2'⟩
          case measure => simp [intOf]; omega
        · have hop : operB a b c i 105 = decB i.toNat := rfl
          have hi : ∀ w, (Instr.index 9 (.string ss) (.int .i64 (k : Int))).run Tryz.prog w = .ok (.int .u8 105) w := fun w => sidx_run ss k 105 HC.out 105 rfl w
          have hdl := dec_len i.toNat (by omega)
          have HD := fun W => decimal_ref i.toNat (by omega) W
          rw [show ((i.toNat : Nat) : Int) = i by omega] at HD
          obtain ⟨d, hd⟩ : ∃ d : ByteArray, d = ⟨(decB i.toNat).toArray⟩ := ⟨_, rfl⟩
          simp only [strV] at HD
          rw [← hd] at HD
          have R2 := add_run l (decB i.toNat) (by first | omega | (simp only [List.length_cons, List.length_nil]; omega) | (simp only [List.length_append, List.length_cons, List.length_nil]; omega))
          obtain ⟨r2, h2⟩ : ∃ r2 : ByteArray, r2 = ⟨(l ++ (decB i.toNat)).toArray⟩ := ⟨_, rfl⟩
          simp only [strV] at R2
          rw [← h2, ← HR.out.1, ← hd] at R2
          have HR2 : Hid (r2 = ⟨(lineP o a b c i (k + 1)).toArray⟩) := by
            show _ = _
            rw [h2, lineP_step o a b c i k 105 HS.out, hop, if_neg hk0, ← HR.out.2]
          clear h2 hop hd hk0
          go_wp2_with fail
          refine (HD _).mono ?_
          rintro e w2 ⟨rfl, f2⟩
          have F2 := fk.trans f2
          have r2' := rk.keep f2 (fun h => h)
          clear HD f2 fk rk c0 c1 c2 c3 c4
          go_wp2_with fail
          go_roundw
          case rel => exact ⟨k + 1, r2, by omega, by go_num, rfl, HR2, F2, r2'⟩
          case measure => simp [intOf]; omega
        · have hop : operB a b c i 44 = [44, 32] := rfl
          have hi : ∀ w, (Instr.index 9 (.string ss) (.int .i64 (k : Int))).run Tryz.prog w = .ok (.int .u8 44) w := fun w => sidx_run ss k 44 HC.out 44 rfl w
          have R2 := add_run l [44, 32] (by first | omega | (simp only [List.length_cons, List.length_nil]; omega) | (simp only [List.length_append, List.length_cons, List.length_nil]; omega))
          obtain ⟨r2, h2⟩ : ∃ r2 : ByteArray, r2 = ⟨(l ++ [44, 32]).toArray⟩ := ⟨_, rfl⟩
          simp only [strV] at R2
          rw [← h2, ← HR.out.1] at R2
          have HR2 : Hid (r2 = ⟨(lineP o a b c i (k + 1)).toArray⟩) := by
            show _ = _
            rw [h2, lineP_step o a b c i k 44 HS.out, hop, if_neg hk0, ← HR.out.2]
          clear h2 hop hk0
          go_wp2_with fail
          go_roundw
          case rel => exact ⟨k + 1, r2, by omega, by go_num, rfl, HR2, fk, rk⟩
          case measure => simp [intOf]; omega
        · have hop : operB a b c i 43 = [32, 43, 32] := rfl
          have hi : ∀ w, (Instr.index 9 (.string ss) (.int .i64 (k : Int))).run Tryz.prog w = .ok (.int .u8 43) w := fun w => sidx_run ss k 43 HC.out 43 rfl w
          have R2 := add_run l [32, 43, 32] (by first | omega | (simp only [List.length_cons, List.length_nil]; omega) | (simp only [List.length_append, List.length_cons, List.length_nil]; omega))
          obtain ⟨r2, h2⟩ : ∃ r2 : ByteArray, r2 = ⟨(l ++ [32, 43, 32]).toArray⟩ := ⟨_, rfl⟩
          simp only [strV] at R2
          rw [← h2, ← HR.out.1] at R2
          have HR2 : Hid (r2 = ⟨(lineP o a b c i (k + 1)).toArray⟩) := by
            show _ = _
            rw [h2, lineP_step o a b c i k 43 HS.out, hop, if_neg hk0, ← HR.out.2]
          clear h2 hop hk0
          go_wp2_with fail
          go_roundw
          case rel => exact ⟨k + 1, r2, by omega, by go_num, rfl, HR2, fk, rk⟩
          case measure => simp [intOf]; omega
        · have hop : operB a b c i 91 = [91] := rfl
          have hi : ∀ w, (Instr.index 9 (.string ss) (.int .i64 (k : Int))).run Tryz.prog w = .ok (.int .u8 91) w := fun w => sidx_run ss k 91 HC.out 91 rfl w
          have R2 := add_run l [91] (by first | omega | (simp only [List.length_cons, List.length_nil]; omega) | (simp only [List.length_append, List.length_cons, List.length_nil]; omega))
          obtain ⟨r2, h2⟩ : ∃ r2 : ByteArray, r2 = ⟨(l ++ [91]).toArray⟩ := ⟨_, rfl⟩
          simp only [strV] at R2
          rw [← h2, ← HR.out.1] at R2
          have hsl : ∀ w, (Instr.sliceAt 9 (.string ss) (some (.int .i64 (k : Int))) (some (.int .i64 ((k : Int) + 1))) none).run Tryz.prog w = .ok (.string ⟨#[91]⟩) w := fun w => sslice_run ss k 91 HC.out w
          have HR2 : Hid (r2 = ⟨(lineP o a b c i (k + 1)).toArray⟩) := by
            show _ = _
            rw [h2, lineP_step o a b c i k 91 HS.out, hop, if_neg hk0, ← HR.out.2]
          clear h2 hop hk0
          go_wp2_with fail
          go_roundw
          case rel => exact ⟨k + 1, r2, by omega, by go_num, rfl, HR2, fk, rk⟩
          case measure => simp [intOf]; omega
        · have hop : operB a b c i 93 = [93] := rfl
          have hi : ∀ w, (Instr.index 9 (.string ss) (.int .i64 (k : Int))).run Tryz.prog w = .ok (.int .u8 93) w := fun w => sidx_run ss k 93 HC.out 93 rfl w
          have R2 := add_run l [93] (by first | omega | (simp only [List.length_cons, List.length_nil]; omega) | (simp only [List.length_append, List.length_cons, List.length_nil]; omega))
          obtain ⟨r2, h2⟩ : ∃ r2 : ByteArray, r2 = ⟨(l ++ [93]).toArray⟩ := ⟨_, rfl⟩
          simp only [strV] at R2
          rw [← h2, ← HR.out.1] at R2
          have hsl : ∀ w, (Instr.sliceAt 9 (.string ss) (some (.int .i64 (k : Int))) (some (.int .i64 ((k : Int) + 1))) none).run Tryz.prog w = .ok (.string ⟨#[93]⟩) w := fun w => sslice_run ss k 93 HC.out w
          have HR2 : Hid (r2 = ⟨(lineP o a b c i (k + 1)).toArray⟩) := by
            show _ = _
            rw [h2, lineP_step o a b c i k 93 HS.out, hop, if_neg hk0, ← HR.out.2]
          clear h2 hop hk0
          go_wp2_with fail
          go_roundw
          case rel => exact ⟨k + 1, r2, by omega, by go_num, rfl, HR2, fk, rk⟩
          case measure => simp [intOf]; omega
    · have hkn : k = n := by omega
      have u1 : decide ((k : Int) < (n : Int)) = false := decide_eq_false (by omega)
      have u2 : decide (k < n) = false := decide_eq_false hlt
      have HE : Hid (r = ⟨(insB o a b c i).toArray⟩) := by show _ = _; rw [HRk.out, hkn, HN.out, lineP_all]
      go_wp2_with fail
      go_ret
      exact ⟨by rw [HE.out]; rfl, fk⟩

end Go.Proofs.YtjfpmioiebnloaaGreatDoor

