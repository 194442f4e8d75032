/-
  Proved: the second form's card AsmPrintsUptoCardSaid: for every list of words and every number the law AsmPrints of the Go text returns true, where what it reads is of bulk at most 1048576, and each argument reads afterwards as it read before, the library's tables laid as the program's own text lays them. No condition but the form's own.
-/
import Derived.Test.YtjfpmioiebnloaaGreatDoorAsmRefJ
import Derived.Test.YtjfpmioiebnloaaGreatDoorAsmPrt
import Derived.Test.YtjfpmioiebnloaaGreatDoorIsaRef
import Derived.Test.YtjfpmioiebnloaaGreatDoorAsmU32
import Derived.Laws.AppendOwnNone
import Derived.Test.YtjfpmioiebnloaaGreatDoorAsmWit
/- AsmRefP -/
namespace Go.Proofs.YtjfpmioiebnloaaGreatDoor
open Go.RowKit

theorem hex_slice (n : Nat) (h : n < 16) (w : World) : (Instr.sliceAt 9 (.string ⟨#[48, 49, 50, 51, 52, 53, 54, 55, 56, 57, 97, 98, 99, 100, 101, 102]⟩) (some (.int .i64 (n : Int))) (some (.int .i64 ((n : Int) + 1))) none).run Tryz.prog w = .ok (.string ⟨[hexB n].toArray⟩) w := by
  refine sslice_run _ n (hexB n) ?_ w
  have key : ∀ k : Fin 16, [(48 : UInt8), 49, 50, 51, 52, 53, 54, 55, 56, 57, 97, 98, 99, 100, 101, 102][k.val]? = some (hexB k.val) := by decide
  exact key ⟨n, h⟩


theorem and15_u32 (y : Int) (h0 : 0 ≤ y) (h1 : y < 4294967296) : bits BinOp.and IntKind.u32 y 15 = y % 16 := bits_mask .u32 32 (by decide) (fun n g0 g1 => by rw [IntKind.wrap_u32]; omega) 4 (by decide) y h0 h1
theorem wrap64_small (n : Int) (h0 : 0 ≤ n) (h1 : n ≤ 1000) : wrap64 n = n := by unfold wrap64; omega
theorem OB.keep {w0 w1 w2 : World} {v : Value} {L : List UInt8} {k : Nat} (h : OB w0 w1 v L k) (f : Fr none' w1 w2) : OB w0 w2 v L k := by
  obtain ⟨f0, ⟨hl, ho⟩, hk⟩ := h
  refine ⟨f0.trans f, ⟨hl, ?_⟩, hk⟩
  rcases ho with h | ⟨g, cap, cur, hv, hb, hg, hr⟩
  · exact Or.inl h
  · exact Or.inr ⟨g, cap, cur, hv, hb, (f.block g (Row.lt (show Row w1 g cur 5 from hg)) (fun h => h)).trans hg, hr⟩

set_option maxRecDepth 100000 in
set_option maxHeartbeats 4000000 in
theorem print_ref (a0 : Option Addr) (cap : Nat) (ws : List Nat) (w : World) (h32 : ∀ x ∈ ws, x < 4294967296) (hn : ws.length ≤ 2000000) (hc : U32s w a0 ws) :
    Calls Tryz.prog 10 #[.slice a0 ws.length cap] w fun e w' => e = .returned (strV (printB ws)) ∧ Fr none' w w' := by
  have o0 := ob_nil w
  have HC := hid' hc
  have H32 := hid' h32
  obtain ⟨ln, hln⟩ : ∃ ln, ws.length = ln := ⟨_, rfl⟩
  rw [hln] at hn ⊢
  have HLN := hid' hln
  clear hc h32 hln
  go_enter Tryz.func10, Tryz.ntmps10
  go_wp2_with fail
  go_loopw [3, 4] (fun v i wr => ∃ k : Nat, k ≤ ln ∧ i = .int .i64 (k : Int) ∧ OB w wr v (printB (ws.take k)) (152 * k)) (fun _ i _ => ln - (intOf i).toNat)
  case atStart => exact ⟨0, by omega, rfl, o0⟩
  case round =>
    clear o0
    obtain ⟨k, hk, rfl, ok⟩ := hrel
    by_cases hlt : k < ln
    · obtain ⟨x, hx⟩ : ∃ x, ws[k]? = some x := ⟨_, List.getElem?_eq_getElem (by have := HLN.out; omega)⟩
      obtain ⟨b, o, rfl, hcell⟩ := HC.out k x hx
      have fk := ok.1
      have c0 := cell_keep fk hcell (fun h => h)
      have hx32 := H32.out x (List.mem_of_getElem? hx)
      have i1 : 0 ≤ (k : Int) ∧ (k : Int) < (ln : Int) := by omega
      have u1 : decide ((k : Int) < (ln : Int)) = true := decide_eq_true (by omega)
      have u2 : decide (k < ln) = true := decide_eq_true hlt
      have hI := rdec_any x wr hx32
      have HT : Hid (printB (ws.take (k + 1)) = (printB (ws.take k) ++ printL x) ++ [10]) := by
        show printB (ws.take (k + 1)) = (printB (ws.take k) ++ printL x) ++ [10]
        unfold printB
        rw [List.take_add_one, hx, List.flatMap_append]; simp
      have hpl := printI_len x hx32
      obtain ⟨s1, hs1⟩ : ∃ s : ByteArray, s = ⟨(printL x).toArray⟩ := ⟨_, rfl⟩
      have hsl : s1.data.toList = printL x := by rw [hs1]
      have HOK := hid' ok
      have HPL := hid' hpl
      have HSL := hid' hsl
      clear hx hcell ok hpl hsl
      cases hd : decOk (x : Int) with
      | true =>
        have e1 : dOp (x : Int) = qo x ∧ dA (x : Int) = qa x ∧ dB (x : Int) = qb x ∧ dC (x : Int) = qc x ∧ dI (x : Int) = qi x ∧ dE (x : Int) = 0 := by unfold dOp dA dB dC dI dE; rw [hd]; exact ⟨rfl, rfl, rfl, rfl, rfl, rfl⟩
        obtain ⟨g1, g2, g3, g4, g5, g6⟩ := e1
        rw [g1, g2, g3, g4, g5, g6] at hI
        have hL := fun W => line_ref (qo x) (qa x) (qb x) (qc x) (qi x) (by unfold qa; split <;> omega) (by unfold qb; split <;> omega) (by unfold qc; split <;> omega) (by unfold qi; split <;> omega) W
        have hp : printL x = insB (qo x) (qa x) (qb x) (qc x) (qi x) := by unfold printL; rw [hd]; rfl
        rw [← hp] at hL
        simp only [strV] at hL
        rw [← hs1] at hL
        obtain ⟨vo, hvo⟩ : ∃ v, qo (x : Int) = v := ⟨_, rfl⟩
        obtain ⟨va, hva⟩ : ∃ v, qa (x : Int) = v := ⟨_, rfl⟩
        obtain ⟨vb, hvb⟩ : ∃ v, qb (x : Int) = v := ⟨_, rfl⟩
        obtain ⟨vc, hvc⟩ : ∃ v, qc (x : Int) = v := ⟨_, rfl⟩
        obtain ⟨vi, hvi⟩ : ∃ v, qi (x : Int) = v := ⟨_, rfl⟩
        rw [hvo, hva, hvb, hvc, hvi] at hI hL
        clear g1 g2 g3 g4 g5 g6 hp hvo hva hvb hvc hvi hd hs1 hx32
        go_wp2_with fail
        refine hI.mono ?_
        rintro e w1 ⟨rfl, f1⟩
        have fa := (Fr.refl none' w1).alloc (.cells (ibox 0 0 0 0 0) 48)
        have ra := row_alloc w1 (ibox 0 0 0 0 0) 48
        clear hI c0 fk
        go_wp2_with fail
        refine (hL _).mono ?_
        rintro e w2 ⟨rfl, f2⟩
        have F2 := (f1.trans ((Fr.refl none' w1).alloc (.cells #[.int .i64 vo, .int .i64 va, .int .i64 vb, .int .i64 vc, .int .i64 vi] 48))).trans f2
        obtain ⟨va', wa, R1, oa⟩ := ob_str (HOK.out.keep F2) s1 (printL x) _ HSL.out rfl (by have := HPL.out; omega)
        obtain ⟨vb', wb, R2, ob⟩ := ob_byte oa 10 (by have := HPL.out; omega)
        have HO2 : Hid (OB w wb vb' (printB (ws.take (k + 1))) (152 * (k + 1))) := by
          have := HPL.out
          show OB w wb vb' (printB (ws.take (k + 1))) (152 * (k + 1))
          rw [HT.out]
          exact ⟨ob.1, ob.2.1, by have := ob.2.2; omega⟩
        clear hL f1 f2 F2 oa ob fa ra
        go_wp2_with fail
        refine wp_loop_rounds 1 ?_
        rw [rounds_succ]
        go_wp2_with (at_builtin; first | refine wpList_append_runT rfl _ _ _ _ rfl _ _ rfl rfl _ _ R1 ?_ | refine wpList_append_runT rfl _ _ _ _ rfl _ _ rfl rfl _ _ R2 ?_)
        go_roundw
        case rel => exact ⟨k + 1, by omega, by go_num, HO2.out⟩
        case measure => simp [intOf]; omega
      | false =>
        have e1 : dOp (x : Int) = 0 ∧ dA (x : Int) = 0 ∧ dB (x : Int) = 0 ∧ dC (x : Int) = 0 ∧ dI (x : Int) = 0 ∧ dE (x : Int) = 50 := by unfold dOp dA dB dC dI dE; rw [hd]; exact ⟨rfl, rfl, rfl, rfl, rfl, rfl⟩
        obtain ⟨g1, g2, g3, g4, g5, g6⟩ := e1
        rw [g1, g2, g3, g4, g5, g6] at hI
        have hp : printL x = rawB x := by unfold printL; rw [hd]; rfl
        have S0 := hex_slice (x / 268435456 % 16) (by omega)
        obtain ⟨n0, hn0⟩ : ∃ n : Int, ((x / 268435456 % 16 : Nat) : Int) = n := ⟨_, rfl⟩
        rw [hn0] at S0
        have B0 : bits BinOp.and IntKind.u32 ((x : Int) / 268435456) 15 = n0 := by rw [and15_u32 ((x : Int) / 268435456) (by omega) (by omega), ← hn0]; omega
        have C0 : wrap64 n0 = n0 := wrap64_small n0 (by omega) (by omega)
        have E0 : wrap64 (n0 + 1) = n0 + 1 := wrap64_small (n0 + 1) (by omega) (by omega)
        have A0 := add_run ([119, 111, 114, 100, 32, 48, 120]) [hexB (x / 268435456 % 16)] (by simp)
        obtain ⟨d0, hd0⟩ : ∃ d : ByteArray, d = ⟨[hexB (x / 268435456 % 16)].toArray⟩ := ⟨_, rfl⟩
        obtain ⟨t0, ht0⟩ : ∃ d : ByteArray, d = ⟨(([119, 111, 114, 100, 32, 48, 120]) ++ [hexB (x / 268435456 % 16)]).toArray⟩ := ⟨_, rfl⟩
        rw [← hd0] at S0
        simp only [strV] at A0
        rw [← hd0, ← ht0] at A0
        have S1 := hex_slice (x / 16777216 % 16) (by omega)
        obtain ⟨n1, hn1⟩ : ∃ n : Int, ((x / 16777216 % 16 : Nat) : Int) = n := ⟨_, rfl⟩
        rw [hn1] at S1
        have B1 : bits BinOp.and IntKind.u32 ((x : Int) / 16777216) 15 = n1 := by rw [and15_u32 ((x : Int) / 16777216) (by omega) (by omega), ← hn1]; omega
        have C1 : wrap64 n1 = n1 := wrap64_small n1 (by omega) (by omega)
        have E1 : wrap64 (n1 + 1) = n1 + 1 := wrap64_small (n1 + 1) (by omega) (by omega)
        have A1 := add_run (([119, 111, 114, 100, 32, 48, 120]) ++ [hexB (x / 268435456 % 16)]) [hexB (x / 16777216 % 16)] (by simp)
        obtain ⟨d1, hd1⟩ : ∃ d : ByteArray, d = ⟨[hexB (x / 16777216 % 16)].toArray⟩ := ⟨_, rfl⟩
        obtain ⟨t1, ht1⟩ : ∃ d : ByteArray, d = ⟨((([119, 111, 114, 100, 32, 48, 120]) ++ [hexB (x / 268435456 % 16)]) ++ [hexB (x / 16777216 % 16)]).toArray⟩ := ⟨_, rfl⟩
        rw [← hd1] at S1
        simp only [strV] at A1
        rw [← hd1, ← ht1, ← ht0] at A1
        have S2 := hex_slice (x / 1048576 % 16) (by omega)
        obtain ⟨n2, hn2⟩ : ∃ n : Int, ((x / 1048576 % 16 : Nat) : Int) = n := ⟨_, rfl⟩
        rw [hn2] at S2
        have B2 : bits BinOp.and IntKind.u32 ((x : Int) / 1048576) 15 = n2 := by rw [and15_u32 ((x : Int) / 1048576) (by omega) (by omega), ← hn2]; omega
        have C2 : wrap64 n2 = n2 := wrap64_small n2 (by omega) (by omega)
        have E2 : wrap64 (n2 + 1) = n2 + 1 := wrap64_small (n2 + 1) (by omega) (by omega)
        have A2 := add_run ((([119, 111, 114, 100, 32, 48, 120]) ++ [hexB (x / 268435456 % 16)]) ++ [hexB (x / 16777216 % 16)]) [hexB (x / 1048576 % 16)] (by simp)
        obtain ⟨d2, hd2⟩ : ∃ d : ByteArray, d = ⟨[hexB (x / 1048576 % 16)].toArray⟩ := ⟨_, rfl⟩
        obtain ⟨t2, ht2⟩ : ∃ d : ByteArray, d = ⟨(((([119, 111, 114, 100, 32, 48, 120]) ++ [hexB (x / 268435456 % 16)]) ++ [hexB (x / 16777216 % 16)]) ++ [hexB (x / 1048576 % 16)]).toArray⟩ := ⟨_, rfl⟩
        rw [← hd2] at S2
        simp only [strV] at A2
        rw [← hd2, ← ht2, ← ht1] at A2
        have S3 := hex_slice (x / 65536 % 16) (by omega)
        obtain ⟨n3, hn3⟩ : ∃ n : Int, ((x / 65536 % 16 : Nat) : Int) = n := ⟨_, rfl⟩
        rw [hn3] at S3
        have B3 : bits BinOp.and IntKind.u32 ((x : Int) / 65536) 15 = n3 := by rw [and15_u32 ((x : Int) / 65536) (by omega) (by omega), ← hn3]; omega
        have C3 : wrap64 n3 = n3 := wrap64_small n3 (by omega) (by omega)
        have E3 : wrap64 (n3 + 1) = n3 + 1 := wrap64_small (n3 + 1) (by omega) (by omega)
        have A3 := add_run (((([119, 111, 114, 100, 32, 48, 120]) ++ [hexB (x / 268435456 % 16)]) ++ [hexB (x / 16777216 % 16)]) ++ [hexB (x / 1048576 % 16)]) [hexB (x / 65536 % 16)] (by simp)
        obtain ⟨d3, hd3⟩ : ∃ d : ByteArray, d = ⟨[hexB (x / 65536 % 16)].toArray⟩ := ⟨_, rfl⟩
        obtain ⟨t3, ht3⟩ : ∃ d : ByteArray, d = ⟨((((([119, 111, 114, 100, 32, 48, 120]) ++ [hexB (x / 268435456 % 16)]) ++ [hexB (x / 16777216 % 16)]) ++ [hexB (x / 1048576 % 16)]) ++ [hexB (x / 65536 % 16)]).toArray⟩ := ⟨_, rfl⟩
        rw [← hd3] at S3
        simp only [strV] at A3
        rw [← hd3, ← ht3, ← ht2] at A3
        have S4 := hex_slice (x / 4096 % 16) (by omega)
        obtain ⟨n4, hn4⟩ : ∃ n : Int, ((x / 4096 % 16 : Nat) : Int) = n := ⟨_, rfl⟩
        rw [hn4] at S4
        have B4 : bits BinOp.and IntKind.u32 ((x : Int) / 4096) 15 = n4 := by rw [and15_u32 ((x : Int) / 4096) (by omega) (by omega), ← hn4]; omega
        have C4 : wrap64 n4 = n4 := wrap64_small n4 (by omega) (by omega)
        have E4 : wrap64 (n4 + 1) = n4 + 1 := wrap64_small (n4 + 1) (by omega) (by omega)
        have A4 := add_run ((((([119, 111, 114, 100, 32, 48, 120]) ++ [hexB (x / 268435456 % 16)]) ++ [hexB (x / 16777216 % 16)]) ++ [hexB (x / 1048576 % 16)]) ++ [hexB (x / 65536 % 16)]) [hexB (x / 4096 % 16)] (by simp)
        obtain ⟨d4, hd4⟩ : ∃ d : ByteArray, d = ⟨[hexB (x / 4096 % 16)].toArray⟩ := ⟨_, rfl⟩
        obtain ⟨t4, ht4⟩ : ∃ d : ByteArray, d = ⟨(((((([119, 111, 114, 100, 32, 48, 120]) ++ [hexB (x / 268435456 % 16)]) ++ [hexB (x / 16777216 % 16)]) ++ [hexB (x / 1048576 % 16)]) ++ [hexB (x / 65536 % 16)]) ++ [hexB (x / 4096 % 16)]).toArray⟩ := ⟨_, rfl⟩
        rw [← hd4] at S4
        simp only [strV] at A4
        rw [← hd4, ← ht4, ← ht3] at A4
        have S5 := hex_slice (x / 256 % 16) (by omega)
        obtain ⟨n5, hn5⟩ : ∃ n : Int, ((x / 256 % 16 : Nat) : Int) = n := ⟨_, rfl⟩
        rw [hn5] at S5
        have B5 : bits BinOp.and IntKind.u32 ((x : Int) / 256) 15 = n5 := by rw [and15_u32 ((x : Int) / 256) (by omega) (by omega), ← hn5]; omega
        have C5 : wrap64 n5 = n5 := wrap64_small n5 (by omega) (by omega)
        have E5 : wrap64 (n5 + 1) = n5 + 1 := wrap64_small (n5 + 1) (by omega) (by omega)
        have A5 := add_run (((((([119, 111, 114, 100, 32, 48, 120]) ++ [hexB (x / 268435456 % 16)]) ++ [hexB (x / 16777216 % 16)]) ++ [hexB (x / 1048576 % 16)]) ++ [hexB (x / 65536 % 16)]) ++ [hexB (x / 4096 % 16)]) [hexB (x / 256 % 16)] (by simp)
        obtain ⟨d5, hd5⟩ : ∃ d : ByteArray, d = ⟨[hexB (x / 256 % 16)].toArray⟩ := ⟨_, rfl⟩
        obtain ⟨t5, ht5⟩ : ∃ d : ByteArray, d = ⟨((((((([119, 111, 114, 100, 32, 48, 120]) ++ [hexB (x / 268435456 % 16)]) ++ [hexB (x / 16777216 % 16)]) ++ [hexB (x / 1048576 % 16)]) ++ [hexB (x / 65536 % 16)]) ++ [hexB (x / 4096 % 16)]) ++ [hexB (x / 256 % 16)]).toArray⟩ := ⟨_, rfl⟩
        rw [← hd5] at S5
        simp only [strV] at A5
        rw [← hd5, ← ht5, ← ht4] at A5
        have S6 := hex_slice (x / 16 % 16) (by omega)
        obtain ⟨n6, hn6⟩ : ∃ n : Int, ((x / 16 % 16 : Nat) : Int) = n := ⟨_, rfl⟩
        rw [hn6] at S6
        have B6 : bits BinOp.and IntKind.u32 ((x : Int) / 16) 15 = n6 := by rw [and15_u32 ((x : Int) / 16) (by omega) (by omega), ← hn6]; omega
        have C6 : wrap64 n6 = n6 := wrap64_small n6 (by omega) (by omega)
        have E6 : wrap64 (n6 + 1) = n6 + 1 := wrap64_small (n6 + 1) (by omega) (by omega)
        have A6 := add_run ((((((([119, 111, 114, 100, 32, 48, 120]) ++ [hexB (x / 268435456 % 16)]) ++ [hexB (x / 16777216 % 16)]) ++ [hexB (x / 1048576 % 16)]) ++ [hexB (x / 65536 % 16)]) ++ [hexB (x / 4096 % 16)]) ++ [hexB (x / 256 % 16)]) [hexB (x / 16 % 16)] (by simp)
        obtain ⟨d6, hd6⟩ : ∃ d : ByteArray, d = ⟨[hexB (x / 16 % 16)].toArray⟩ := ⟨_, rfl⟩
        obtain ⟨t6, ht6⟩ : ∃ d : ByteArray, d = ⟨(((((((([119, 111, 114, 100, 32, 48, 120]) ++ [hexB (x / 268435456 % 16)]) ++ [hexB (x / 16777216 % 16)]) ++ [hexB (x / 1048576 % 16)]) ++ [hexB (x / 65536 % 16)]) ++ [hexB (x / 4096 % 16)]) ++ [hexB (x / 256 % 16)]) ++ [hexB (x / 16 % 16)]).toArray⟩ := ⟨_, rfl⟩
        rw [← hd6] at S6
        simp only [strV] at A6
        rw [← hd6, ← ht6, ← ht5] at A6
        have S7 := hex_slice (x % 16) (by omega)
        obtain ⟨n7, hn7⟩ : ∃ n : Int, ((x % 16 : Nat) : Int) = n := ⟨_, rfl⟩
        rw [hn7] at S7
        have B7 : bits BinOp.and IntKind.u32 ((x : Int)) 15 = n7 := by rw [and15_u32 ((x : Int)) (by omega) (by omega), ← hn7]; omega
        have C7 : wrap64 n7 = n7 := wrap64_small n7 (by omega) (by omega)
        have E7 : wrap64 (n7 + 1) = n7 + 1 := wrap64_small (n7 + 1) (by omega) (by omega)
        have A7 := add_run (((((((([119, 111, 114, 100, 32, 48, 120]) ++ [hexB (x / 268435456 % 16)]) ++ [hexB (x / 16777216 % 16)]) ++ [hexB (x / 1048576 % 16)]) ++ [hexB (x / 65536 % 16)]) ++ [hexB (x / 4096 % 16)]) ++ [hexB (x / 256 % 16)]) ++ [hexB (x / 16 % 16)]) [hexB (x % 16)] (by simp)
        obtain ⟨d7, hd7⟩ : ∃ d : ByteArray, d = ⟨[hexB (x % 16)].toArray⟩ := ⟨_, rfl⟩
        obtain ⟨t7, ht7⟩ : ∃ d : ByteArray, d = ⟨((((((((([119, 111, 114, 100, 32, 48, 120]) ++ [hexB (x / 268435456 % 16)]) ++ [hexB (x / 16777216 % 16)]) ++ [hexB (x / 1048576 % 16)]) ++ [hexB (x / 65536 % 16)]) ++ [hexB (x / 4096 % 16)]) ++ [hexB (x / 256 % 16)]) ++ [hexB (x / 16 % 16)]) ++ [hexB (x % 16)]).toArray⟩ := ⟨_, rfl⟩
        rw [← hd7] at S7
        simp only [strV] at A7
        rw [← hd7, ← ht7, ← ht6] at A7
        have hts : t7 = s1 := by rw [ht7, hs1, hp]; rfl
        rw [hts] at A7
        clear g1 g2 g3 g4 g5 g6 hp hd hs1 hts hd0 ht0 hn0 hd1 ht1 hn1 hd2 ht2 hn2 hd3 ht3 hn3 hd4 ht4 hn4 hd5 ht5 hn5 hd6 ht6 hn6 hd7 ht7 hn7 hx32
        go_wp2_with fail
        refine hI.mono ?_
        rintro e w1 ⟨rfl, f1⟩
        have F2 := f1.trans ((Fr.refl none' w1).alloc (.cells #[.int .i64 0, .int .i64 0, .int .i64 0, .int .i64 0, .int .i64 0] 48))
        have c1 := cell_keep F2 c0 (fun h => h)
        obtain ⟨va', wa, R1, oa⟩ := ob_str (HOK.out.keep F2) s1 (printL x) _ HSL.out rfl (by have := HPL.out; omega)
        obtain ⟨vb', wb, R2, ob⟩ := ob_byte oa 10 (by have := HPL.out; omega)
        have HO2 : Hid (OB w wb vb' (printB (ws.take (k + 1))) (152 * (k + 1))) := by
          have := HPL.out
          show OB w wb vb' (printB (ws.take (k + 1))) (152 * (k + 1))
          rw [HT.out]
          exact ⟨ob.1, ob.2.1, by have := ob.2.2; omega⟩
        clear hI c0 f1 F2 oa ob fk
        go_wp2_with fail
        refine wp_loop_rounds 9 ?_
        rw [rounds_succ]
        go_wp2_with fail
        rw [rounds_succ]
        go_wp2_with fail
        clear S0 A0 B0 C0 E0
        rw [rounds_succ]
        go_wp2_with fail
        clear S1 A1 B1 C1 E1
        rw [rounds_succ]
        go_wp2_with fail
        clear S2 A2 B2 C2 E2
        rw [rounds_succ]
        go_wp2_with fail
        clear S3 A3 B3 C3 E3
        rw [rounds_succ]
        go_wp2_with fail
        clear S4 A4 B4 C4 E4
        rw [rounds_succ]
        go_wp2_with fail
        clear S5 A5 B5 C5 E5
        rw [rounds_succ]
        go_wp2_with fail
        clear S6 A6 B6 C6 E6
        rw [rounds_succ]
        go_wp2_with (at_builtin; first | refine wpList_append_runT rfl _ _ _ _ rfl _ _ rfl rfl _ _ R1 ?_ | refine wpList_append_runT rfl _ _ _ _ rfl _ _ rfl rfl _ _ R2 ?_)
        go_roundw
        case rel => exact ⟨k + 1, by omega, by go_num, HO2.out⟩
        case measure => simp [intOf]; omega
    · obtain rfl : k = ln := by omega
      have u1 : decide ((k : Int) < (k : Int)) = false := decide_eq_false (by omega)
      have u2 : decide (k < k) = false := decide_eq_false (by omega)
      have hT : printB (ws.take k) = printB ws := by rw [List.take_of_length_le (by have := HLN.out; omega)]
      rw [hT] at ok
      have hS := ob_string ok
      have fk := ok.1
      clear hT ok
      go_wp2_with fail
      go_ret
      exact ⟨rfl, fk⟩

end Go.Proofs.YtjfpmioiebnloaaGreatDoor

/- AsmPrintsWalk -/
namespace Go.Proofs.YtjfpmioiebnloaaGreatDoor
open Go.RowKit

theorem app_ws (w : World) (B : Nat) (v : Value) (L : List Int) (ws : List Nat) (a0 : Option Addr) (cap : Nat) (ho : w.ownsRow B 28 1 v L.length (L.map (Value.int .u32))) (hu : U32s w a0 ws) (hno : a0 = none → ws = [] ∧ cap = 0) (hb : B ≤ w.heap.size) (hlen : L.length + ws.length ≤ 1000000000) :
    ∃ v' w', (Builtin.append_ #[23, 23] 23 #[v, .slice a0 ws.length cap]).run Tryz.prog w = .ok v' w' ∧ Fr (fun q => some q = v.ownBlock) w w' ∧ w'.ownsRow B 28 1 v' (L ++ ws.map (fun (x : Nat) => (x : Int))).length ((L ++ ws.map (fun (x : Nat) => (x : Int))).map (Value.int .u32)) := by
  have hi := info_u32
  cases hq : Tryz.prog.info? 28 with
  | none => simp [hq] at hi
  | some i =>
    rw [hq] at hi
    simp only [Option.map_some, Option.some.injEq, Prod.mk.injEq] at hi
    obtain ⟨hz, hs, hby⟩ := hi
    cases a0 with
    | none =>
      obtain ⟨rfl, rfl⟩ := hno rfl
      refine ⟨v, w, run_append_owned_none (P := Tryz.prog) (w := w) B 23 23 28 i 1 Tryz.underlying23 hq v _ _ ho, Fr.refl _ _, ?_⟩
      simpa using ho
    | some a =>
      obtain ⟨v', w', h1, h2, h3, _⟩ := run_append_own (P := Tryz.prog) w B 23 23 28 i _ 1 4 Tryz.underlying23 hq hz hs hby rfl (by omega) v L.length (L.map (Value.int .u32)) ho a ws.length cap (ws.map (fun (x : Nat) => Value.int .u32 (x : Int))) (by simp)
        (fun j u hu' => by
          rw [List.getElem?_map] at hu'
          cases hj : ws[j]? with
          | none => rw [hj] at hu'; cases hu'
          | some y =>
            rw [hj] at hu'
            cases hu'
            obtain ⟨b, o, he, hc⟩ := hu j y hj
            cases he
            rw [add_lit']
            exact hc)
        (fun u hu' => by
          obtain ⟨y, _, rfl⟩ := List.mem_map.1 hu'
          simp [Value.oneCell'])
        (by simp only [maxLen]; omega) (by omega) hb
      refine ⟨v', w', h1, fr_of_grownK h3, ?_⟩
      have e1 : (L ++ ws.map (fun (x : Nat) => (x : Int))).length = L.length + ws.length := by simp
      have e2 : (L ++ ws.map (fun (x : Nat) => (x : Int))).map (Value.int .u32) = L.map (Value.int .u32) ++ ws.map (fun (x : Nat) => Value.int .u32 (x : Int)) := by simp
      rw [e1, e2]
      exact h2

theorem ws_row {w : World} {B : Nat} {v : Value} {L : List Int} (h : w.ownsRow B 28 1 v L.length (L.map (Value.int .u32))) : Ws w v L := by
  obtain ⟨hl, h | ⟨g, cap, cur, hv, hb, hg, hc, hm, hs, ht⟩⟩ := h
  · have hL : L = [] := List.length_eq_zero_iff.1 h.2
    subst hL
    exact ⟨none, 0, h.1, fun j x hx => by simp at hx⟩
  · refine ⟨_, cap, hv, fun j x hj => ⟨g, 0, rfl, ?_⟩⟩
    have hr : Row w g cur 28 := hg
    have hlt : j < L.length := (List.getElem?_eq_some_iff.1 hj).1
    rw [Nat.zero_add, hr.cell]
    have : (cur.toList.take (L.length * 1))[j]? = some (Value.int .u32 x) := by rw [ht]; simp [hj]
    rw [List.getElem?_take, if_pos (by omega)] at this
    simpa using this

theorem own_empty (w : World) (B : Nat) (hb : B ≤ w.heap.size) : (w.alloc (.cells #[] 28)).ownsRow B 28 1 (.slice (some ⟨w.heap.size, 0, none⟩) 0 0) ([] : List Int).length (([] : List Int).map (Value.int .u32)) :=
  ⟨rfl, Or.inr ⟨w.heap.size, 0, #[], rfl, hb, row_alloc w _ _, Nat.le_refl _, by simp [maxLen], rfl, rfl⟩⟩

theorem own_high {w : World} {B : Nat} {v : Value} {n : Nat} {L : List Value} (h : w.ownsRow B 28 1 v n L) (q : Nat) (hq : some q = v.ownBlock) : B ≤ q := by
  obtain ⟨_, h | ⟨g, cap, cur, hv, hb, _⟩⟩ := h
  · rw [h.1] at hq; simp [Value.ownBlock] at hq
  · rw [hv] at hq; simp [Value.ownBlock] at hq; omega

theorem Fr.over {w w1 w2 : World} {B : Nat} {v : Value} {n : Nat} {L : List Value} (f : Fr none' w w1) (g : Fr (fun q => some q = v.ownBlock) w1 w2) (ho : w1.ownsRow B 28 1 v n L) (hb : w.heap.size ≤ B) : Fr none' w w2 :=
  ⟨g.os.trans f.os, g.tape.trans f.tape, g.output.trans f.output, Nat.le_trans f.size g.size, fun i hi hn => (g.block i (Nat.lt_of_lt_of_le hi f.size) (fun e => by
    have := own_high ho i e
    omega)).trans (f.block i hi hn)⟩

theorem prints_own (v : Value) (ws : List Nat) (w : World) (hE : Env w) (h32 : ∀ x ∈ ws, x < 4294967296) (hn : ws.length ≤ 900000000000) (hw : Ws w v (ws.map (fun (x : Nat) => (x : Int)))) :
    Calls Tryz.prog 9 #[v] w fun e w' => e = .returned (strV (printB ws)) ∧ Fr none' w w' := by
  obtain ⟨a0, cap, rfl, h⟩ := hw
  rw [List.length_map]
  exact print_any a0 cap ws w hE h32 hn fun j x hx => h j x (by rw [List.getElem?_map, hx]; rfl)

set_option maxRecDepth 100000 in
set_option maxHeartbeats 2000000 in
theorem prints_in (a0 : Option Addr) (cap : Nat) (ws : List Nat) (op : Int) (w : World) (hE : Env w) (h32 : ∀ x ∈ ws, x < 4294967296) (hus : U32s w a0 ws) (hno : a0 = none → ws = [] ∧ cap = 0) (hn : ws.length ≤ 2000000) :
    Calls Tryz.prog 4 #[.slice a0 ws.length cap, .int .i64 op] w fun e w' => e = .returned (.bool true) ∧ Fr none' w w' := by
  have A := awake_any w hE
  obtain ⟨s, hs⟩ : ∃ s : ByteArray, s = ⟨(printB ws).toArray⟩ := ⟨_, rfl⟩
  obtain ⟨t, ht⟩ : ∃ s : ByteArray, s = ⟨(mnOf op).toArray⟩ := ⟨_, rfl⟩
  have HR := fun w hu => print_ref a0 cap ws w h32 hn hu
  simp only [strV, ← hs] at HR
  have HP := fun (v : Value) (w : World) (hE : Env w) (hw : Ws w v (ws.map (fun (x : Nat) => (x : Int)))) => prints_own v ws w hE h32 (by omega) hw
  simp only [strV, ← hs] at HP
  have HM := fun w hE => mnem_any op w hE
  have HN := fun w => mnemonic_ref op w
  simp only [strV, ← ht] at HM HN
  have HS := fun (w : World) (v v' : Value) h h' => same_eq v v' (ws.map (fun (x : Nat) => (x : Int))) w (by rw [List.length_map]; omega) h h'
  have HE := hid' hE
  have HU := hid' hus
  have HL := hid' hn
  have HW0 : Hid (∀ w, U32s w a0 ws → Ws w (.slice a0 ws.length cap) (ws.map (fun (x : Nat) => (x : Int)))) := fun w h => ⟨a0, cap, by simp, fun j x hx => by
    rw [List.getElem?_map] at hx
    cases hj : ws[j]? with
    | none => rw [hj] at hx; cases hx
    | some y => rw [hj] at hx; cases hx; exact h j y hj⟩
  obtain ⟨n0, hn0⟩ : ∃ n, ws.length = n := ⟨_, rfl⟩
  have HLN := hid' hn0
  simp only [hn0] at HR
  rw [hn0]
  rw [hn0] at HW0
  clear hE hus hs ht hn hn0
  go_enter Tryz.func4, Tryz.ntmps4
  go_wp2_with fail
  refine A.mono ?_
  rintro e w1 ⟨rfl, f1⟩
  clear A
  have fa := (Fr.refl none' w1).alloc (.cells #[] 28)
  obtain ⟨va, w5, R1, g5, o5⟩ := app_ws (w1.alloc (.cells #[] 28)) w1.heap.size _ [] ws a0 cap (own_empty w1 w1.heap.size (Nat.le_refl _)) (HU.out.keep0 (f1.trans fa)) hno fa.size (by have := HL.out; simp only [List.length_nil]; omega)
  have F5 := fa.over g5 (own_empty w1 w1.heap.size (Nat.le_refl _)) (Nat.le_refl _)
  replace f1 := f1.trans F5
  have W1 := ws_row o5
  rw [HLN.out] at R1
  rw [List.nil_append] at W1
  clear g5 o5 F5 fa
  go_wp2_with (at_builtin; refine wpList_append_runK rfl _ _ _ rfl _ _ rfl rfl _ _ R1 ?_)
  refine (HP va _ (HE.out.keep f1) W1).mono ?_
  rintro e w2 ⟨rfl, f2⟩
  replace f1 := f1.trans f2
  replace W1 := W1.keep0 f2
  clear HP f2 R1
  go_wp2_with fail
  refine (HR _ (HU.out.keep0 f1)).mono ?_
  rintro e w3 ⟨rfl, f3⟩
  replace f1 := f1.trans f3
  replace W1 := W1.keep0 f3
  clear HR f3
  go_wp2_with fail
  refine (HS _ va _ W1 (HW0.out _ (HU.out.keep0 f1))).mono ?_
  rintro e w4 ⟨rfl, f4⟩
  replace f1 := f1.trans f4
  clear HS f4 W1
  go_wp2_with fail
  refine (HM _ (HE.out.keep f1)).mono ?_
  rintro e w6 ⟨rfl, f6⟩
  replace f1 := f1.trans f6
  clear HM f6
  go_wp2_with fail
  refine (HN _).mono ?_
  rintro e w7 ⟨rfl, f7⟩
  replace f1 := f1.trans f7
  clear HN f7
  go_wp2_with fail
  go_ret
  exact ⟨rfl, f1⟩

theorem printsl_any (a0 : Option Addr) (cap : Nat) (ws : List Nat) (op : Int) (w : World) (hE : Env w) (h32 : ∀ x ∈ ws, x < 4294967296) (hus : U32s w a0 ws) (hno : a0 = none → ws = [] ∧ cap = 0) (hn : ws.length ≤ 2000000) :
    Calls Tryz.prog 4 #[.slice a0 ws.length cap, .int .i64 op] w fun e w' => e = .returned (.bool true) ∧ Below w.heap.size w w' :=
  (prints_in a0 cap ws op w hE h32 hus hno hn).mono fun _ _ ⟨he, hf⟩ => ⟨he, hf.below (Nat.le_refl _) (fun _ h => h.elim)⟩

end Go.Proofs.YtjfpmioiebnloaaGreatDoor

/- AsmPrintsProof -/
namespace Go.Proofs.YtjfpmioiebnloaaGreatDoor
open Go.ChangeShapes Go.WideShapes Go.ChangeAt Go.RowKit Go.Deep

theorem bulk_one {H : Type} (d : DataW H) : 1 ≤ Rows.uptoBulk d := by
  cases d with
  | lit l => cases l <;> simp [Rows.uptoBulk]
  | nil => simp [Rows.uptoBulk]
  | ptr d => simp [Rows.uptoBulk]
  | slice elems spare => simp [Rows.uptoBulk]
  | agg parts => simp [Rows.uptoBulk]
  | iface t d => simp [Rows.uptoBulk]
  | map entries => simp [Rows.uptoBulk]
  | held h => simp [Rows.uptoBulk]
theorem bulk_len {H : Type} (l : List (DataW H)) : l.length ≤ Rows.uptoBulkAll l := by
  induction l with
  | nil => simp [Rows.uptoBulkAll]
  | cons x r ih => have := bulk_one x; simp only [Rows.uptoBulkAll, List.length_cons]; omega
/-- A slice's length is at most its reading's bulk. -/
theorem bulk_u32 {H : Type} {enc : TypeId × Value → H} {W : World} {fuel : Nat} {a0 : Option Addr} {len cap : Nat} {y : DataW H × List MemPlace} (hf : DataW.trod enc Tryz.prog W 0 (fun _ => true) true fuel 23 [.slice a0 len cap] = some y) :
    len ≤ Rows.uptoBulk y.1 := by
  rcases open_slice Tryz.underlying23 hf with ⟨hcs, _⟩ | ⟨a, l, c, m, n, D, Pl, hcs, _, _, _, _, hx, _⟩
  · simp only [List.cons.injEq, Value.slice.injEq, and_true] at hcs
    omega
  · simp only [List.cons.injEq, Value.slice.injEq, and_true] at hcs
    obtain ⟨_, rfl, _⟩ := hcs
    rw [hx]
    have := bulk_len ((List.range len).map D)
    rw [List.length_map, List.length_range] at this
    simp only [Rows.uptoBulk]
    omega
theorem bulk_le {H : Type} {l : List (DataW H)} (hk : Rows.uptoSmall H l = true) : Rows.uptoBulkAll l ≤ 1048576 := of_decide_eq_true hk

set_option maxRecDepth 100000 in
theorem asmPrints_contract (H : Type) (enc : TypeId × Value → H) (W : World) (base : Nat) (args : Array Value) (ds gs : List (DataW H)) (before : List MemPlace)
    (hval0 : ∀ (j : Nat) t v, Tryz.f4.params[j]? = some t → args[j]? = some v → Value.okWide Tryz.prog W .any base t v)
    (hW : DataW.Whole enc Tryz.prog Tryz.f4.params.toList Rows.asmPrintsSpec.vars false W args.toList ds gs before) (hE : Env W) (hk : Rows.uptoSmall H (ds ++ gs) = true) :
    Calls Tryz.prog 4 args W fun e W' => ∃ v, e = .returned v ∧ Rows.asmPrintsSpec.post enc Tryz.prog Tryz.f4 false true false false W args v W' := by
  have hval : ∀ (j : Nat) t v, Tryz.f4.params[j]? = some t → args[j]? = some v → Value.okWide Tryz.prog W .any base t v := hval0
  have hW' := hW
  obtain ⟨p, q, hA0, hV, rfl, hfz, hnd⟩ := hW
  have hA : DataW.TrodAll enc Tryz.prog W 0 (fun _ => true) true Tryz.f4.params.toList args.toList ds p := hA0
  rw [Tryz.params4] at hA hval
  obtain ⟨v0, vs0, d0, ds0, p0, q0, hargs, rfl, rfl, h0, r0⟩ := trodAll_cons hA
  obtain ⟨v1, vs1, d1, ds1, p1, q1, rfl, rfl, rfl, h1, r1⟩ := trodAll_cons r0
  obtain ⟨rfl, rfl, rfl⟩ := trodAll_nil r1
  obtain rfl : args = #[v0, v1] := by cases args; simp_all
  obtain ⟨rfl, rfl⟩ := trodVars_none hV
  have k0 := h0
  have lt0 : ∀ x ∈ p0, x.block < W.heap.size := by obtain ⟨m, hm⟩ := k0; exact DataW.trod_lt m _ _ _ hm
  obtain ⟨l0, len0, cap0, rfl⟩ := okWide_slice Tryz.underlying23 (hval 0 23 v0 rfl rfl)
  obtain ⟨hl0, ws0, rfl, h320, hus0, hno0⟩ : len0 ≤ 9223372036854775807 ∧ ∃ ws : List Nat, ws.length = len0 ∧ (∀ x ∈ ws, x < 4294967296) ∧ U32s W l0 ws ∧ (l0 = none → ws = [] ∧ cap0 = 0) := by
    obtain ⟨fuel, hf⟩ := h0
    exact u32s_open (by simpa [Value.cells] using hf)
  have hb0 : ws0.length ≤ 1048576 := by
    obtain ⟨fuel, hf⟩ := k0
    have h1 := bulk_u32 (enc := enc) (W := W) (fuel := fuel) (a0 := l0) (len := ws0.length) (cap := cap0) (y := (d0, p0)) (by simpa [Value.cells] using hf)
    have h2 := bulk_le hk
    simp only [List.cons_append, List.nil_append, Rows.uptoBulkAll] at h2
    simp only at h1
    omega
  obtain ⟨a1, rfl, rfl, rfl, w1⟩ := open_int Tryz.underlying3 (hval 1 3 v1 rfl rfl) h1
  clear hA0 hval0
  refine (printsl_any l0 cap0 ws0 a1 W hE h320 hus0 hno0 (by omega)).mono fun e W' ⟨he, bel⟩ => ?_
  subst he
  exact ⟨_, rfl, _, _, _, [], _, [], hW', trodAll_mk1 (shut_bool Tryz.underlying4 _), (trodAll_cons_mk (Below.trod laid_out (by kernel_rfl) (of_decide_eq_true (by kernel_rfl)) k0 bel lt0) (trodAll_cons_mk (shut_int Tryz.underlying3 w1) trodAll_mk0)), rfl, bel.frame _, fun h => by cases h⟩

theorem asmPrints_reads (os : Os) {H : Type} (enc : TypeId × Value → H) : ∃ places, DataW.whole enc Tryz.prog ((laidWorld os).forCall (fun _ _ => 0) ⟨#[], #[.slice none 0 0, .int .i64 0], []⟩).memory Tryz.f4.params.toList Rows.asmPrintsSpec.vars false #[Value.slice none 0 0, Value.int .i64 0].toList 8 = some ([.nil, .lit (.int .i64 0)], [], places) :=
  ⟨[], by kernel_rfl⟩

set_option maxRecDepth 100000 in
theorem asmPrints_lifted (os : Os) (started : os.Started) (H : Type) (enc : TypeId × Value → H) (F : Stop.Interp) :
    ReturnsInHanded {} Tryz.checked os 4 .any ((Rows.OpenSpec.upto Rows.asmPrintsSpec).preRow enc Tryz.prog Tryz.f4 Rows.asmPrintsUptoRow.domain false Rows.asmPrintsUptoRow.laid) (((Rows.OpenSpec.upto Rows.asmPrintsSpec).at F).post enc Tryz.prog Tryz.f4 false true false false) := by
  obtain ⟨places, hx⟩ := asmPrints_reads os enc
  refine returnsInHanded_of_row (C := Tryz.checked) (s := Rows.OpenSpec.upto Rows.asmPrintsSpec) own_knob started (by kernel_rfl) Tryz.func4
    (witness_row_atRef (enc := enc) (C := Tryz.checked) false (laidWorld os) #[.slice none 0 0, .int .i64 0] rfl (by kernel_rfl) (by kernel_rfl) (by kernel_rfl)
      (OpenSpec.preRow_of_cond 8 hx (by kernel_rfl) (fun k hk => by cases hk; kernel_rfl) (by kernel_rfl) (laid_met os _))) ?_
  intro W base args ds gs before hval hW _ hcond _ hL hsh _
  exact asmPrints_contract H enc W base args ds gs before hval hW (env_of hL hsh) (hcond _ rfl)

set_option maxRecDepth 100000 in
theorem asmPrints_said : Rows.AsmPrintsUptoSaid :=
  OpenClaim.holds_of_cond 4 Tryz.f4 rfl rfl rfl rfl rfl rfl rfl ⟨rfl, rfl, rfl, rfl, rfl⟩ rfl rfl rfl rfl rfl (by kernel_rfl) Tryz.func4 (by kernel_rfl)
    (of_decide_eq_true (by kernel_rfl)) (by unfold Func.isWrapper; first | (rw [if_pos (by decide +kernel)]; kernel_rfl) | (rw [if_neg (by decide +kernel)]; exact ⟨rfl, rfl⟩))
    (fun os started H enc _ F => by rw [OpenClaim.pre_eq_preRow]; exact asmPrints_lifted os started H enc F)

theorem asmPrints_plain (f : FuncId) (fn : Func) (hf : Tryz.pinned.checked.prog.funcNamed Rows.asmPrintsUptoRow.func = some f) (hfn : Tryz.pinned.checked.prog.funcs[f]? = some fn) :
    true = Tryz.pinned.checked.prog.looks [] ∧ ∀ (j : Nat) t, fn.params[j]? = some t → Tryz.pinned.checked.prog.wantsStandIn t = false := by
  obtain rfl : f = 4 := Option.some.inj ((show Tryz.prog.funcNamed Rows.asmPrintsUptoRow.func = some 4 by kernel_rfl).symm.trans hf) |>.symm
  obtain rfl : fn = Tryz.f4 := (Option.some.inj (Tryz.func4.symm.trans hfn)).symm
  refine ⟨by kernel_rfl, fun j t ht => ?_⟩
  rw [Tryz.params4] at ht
  have : t = 23 ∨ t = 3 := by simpa using Array.mem_of_getElem? ht
  rcases this.symm with rfl | rfl
  · exact (show Tryz.prog.wantsStandIn 3 = false by kernel_rfl)
  · exact (show Tryz.prog.wantsStandIn 23 = false by kernel_rfl)

set_option maxRecDepth 100000 in
theorem asmPrintsUpto_card : Rows.AsmPrintsUptoCardSaid :=
  Claim7.holds_tied_plain_at .later [] _ _ _ _ asmPrints_said (fun _ h => by cases h) (by kernel_rfl) (fun _ h => by cases h) asmPrintsUpto_row_tie rfl ⟨rfl, rfl⟩ (by kernel_rfl) rfl asmPrints_plain (by kernel_rfl)
#print axioms asmPrintsUpto_card

end Go.Proofs.YtjfpmioiebnloaaGreatDoor

