/-
  AsmBlanks over the translation: whatever base, source and number came in, the law returns true, and nothing old turns. No statement is proved here.
-/
import Derived.Test.YtiifadnmiambpaaGreatDoorAsmBytesOwn
import Derived.Test.YtiifadnmiambpaaGreatDoorAsmLoops
namespace Go.Proofs.YtiifadnmiambpaaGreatDoor
open Go.RowKit

/-- Whether the law puts blanks round the sign at this place. -/
def chB (x : Int) (i : Nat) : Bool := (bits BinOp.and IntKind.i64 (x / 2 ^ (i % 30)) 1 == 0)

theorem ob_next {ch : Nat → Bool} {L : List UInt8} {k : Nat} {w0 w' : World} {v' : Value} {M : List UInt8} {bd : Nat} {c : UInt8} {rm : Bool} (hk : k < L.length) (hL : L.length ≤ 500) (hc0 : L[k]? = some c) (hr : rm = rmB false (L.take k)) (h : OB w0 w' v' M bd) (e : M = blkB ch 0 false (L.take k) ++ (emitB ch k rm c).1) : OB w0 w' v' (blkB ch 0 false (L.take (k + 1))) 4000 := by
  have hc : L[k] = c := by rw [List.getElem?_eq_getElem hk] at hc0; exact Option.some.inj hc0
  have e' : M = blkB ch 0 false (L.take (k + 1)) := by rw [e, (blk_turn ch L k hk).1, hc, hr]
  rw [e'] at h
  obtain ⟨f, o, _⟩ := h
  refine ⟨f, o, ?_⟩
  have := blk_len ch (L.take (k + 1)) 0 false
  rw [List.length_take] at this
  omega
theorem rm_next {L : List UInt8} {k : Nat} {c : UInt8} {rm : Bool} (hk : k < L.length) (hc0 : L[k]? = some c) (hr : rm = rmB false (L.take k)) : rmB false (L.take (k + 1)) = rmB rm [c] := by
  have hc : L[k] = c := by rw [List.getElem?_eq_getElem hk] at hc0; exact Option.some.inj hc0
  rw [(blk_turn (fun _ => true) L k hk).2, hc, hr]

theorem fst_pos : ∀ (l : List (List UInt8)) (n a e : Nat), firstE l n = some (a, e) → e ≠ 0
  | [], _, _, _, h => by cases h
  | s :: r, n, a, e, h => by
    unfold firstE at h
    split at h
    · rename_i hs
      simp only [Option.some.injEq, Prod.mk.injEq] at h
      rw [← h.2]; exact hs
    · exact fst_pos r _ a e h
theorem asm_line (b : Int) (l : List UInt8) (h : (asmT b l).e = 0) : (asmT b l).line = 0 ∧ ¬ (b < 0 ∨ 65535 < b) := by
  unfold asmT at h ⊢
  split at h
  · simp at h
  · rename_i hb
    refine ⟨?_, hb⟩
    rw [if_neg hb]
    split at h
    · simp at h
    · rename_i h4
      rw [if_neg h4]
      split at h
      · rename_i n e he
        exact absurd h (fst_pos _ _ _ _ he)
      · rename_i he
        split at h
        · simp at h
        · rename_i ht
          split at h
          · rfl
          · simp at h
theorem asm_long (b : Int) (l : List UInt8) (hb : ¬ (b < 0 ∨ 65535 < b)) (h : 4000 < l.length) : asmT b l = ⟨[], 0, 2⟩ := by
  unfold asmT
  rw [if_neg hb, if_pos h]

theorem idx_run (s : ByteArray) (k : Nat) (h : k < s.size) (c : UInt8) (hc : s.data.toList[k]? = some c) (q : Int) (hq : ((c.toNat : Nat) : Int) = q) (w : World) : (Instr.index 9 (.string s) (.int .i64 (k : Int))).run Tryz.prog w = .ok (.int .u8 q) w := by
  rw [run_index_string w 9 s .i64 (k : Int) Tryz.underlying9, dif_pos ⟨by omega, by omega⟩, ← hq]
  have h' : k < s.data.size := h
  rw [Array.getElem?_toList, Array.getElem?_eq_getElem h'] at hc
  have hc' : s.data[k] = c := Option.some.inj hc
  have : (s[((k : Int)).toNat]'(by simpa using h)) = c := by rw [← hc']; rfl
  rw [this]

theorem words_len (all : List Ln6) (base : Nat) : ∀ (l : List Ln6) (n : Nat) (out ws : List Int), wordsT all base l n out = .ok ws → ws.length ≤ out.length + l.length
  | [], _, out, ws, h => by
    unfold wordsT at h
    cases h
    simp
  | y :: r, n, out, ws, h => by
    unfold wordsT at h
    split at h
    · have := words_len all base r _ _ _ h
      simp only [List.length_cons]; omega
    · split at h
      · have := words_len all base r _ _ _ h
        simp only [List.length_cons, List.length_append, List.length_nil] at this ⊢; omega
      · split at h
        · have := words_len all base r _ _ _ h
          simp only [List.length_cons, List.length_append, List.length_nil] at this ⊢; omega
        · cases h
theorem split_len : ∀ l : List UInt8, (splitB l).length ≤ l.length + 1
  | [] => by simp [splitB]
  | c :: r => by
    have := split_len r
    unfold splitB
    split
    · simp; omega
    · split
      · simp
      · rename_i hx
        rw [hx] at this
        simp at this ⊢; omega
theorem asm_len (b : Int) (l : List UInt8) (h : l.length ≤ 4000) : (asmT b l).ws.length ≤ 4001 := by
  unfold asmT
  split
  · simp
  split
  · simp
  split
  · simp
  split
  · simp
  split
  · rename_i ws hw
    have := words_len _ _ _ _ _ _ hw
    have h2 := split_len l
    simp only [linesT, List.length_map, List.length_nil] at this
    dsimp only
    omega
  · simp
theorem r_len {r : Asm} {n : Nat} (b : Int) (l : List UInt8) (h5 : n ≤ 500) (h6 : l.length = n) (hr : asmT b l = r) : r.ws.length ≤ 4001 := by
  rw [← hr]; exact asm_len b l (by omega)

set_option maxRecDepth 100000 in
set_option maxHeartbeats 1000000 in
theorem blanks_out (b : Int) (s : ByteArray) (x : Int) (w : World) (hE : Env w) (h : (asmT b s.data.toList).e ≠ 0 ∨ ((asmT b s.data.toList).e = 0 ∧ 500 < s.size)) :
    Calls Tryz.prog 6 #[.int .i64 b, .string s, .int .i64 x] w fun e w' => e = .returned (.bool true) ∧ Fr none' w w' := by
  have A := awake_any w hE
  have HA := fun w hE => asmis_any b s w hE
  have HE := hid' hE
  generalize asmT b s.data.toList = r at h HA
  clear hE
  rcases h with h1 | ⟨h1, h2⟩
  · have g1 : ((r.e : Int) != 0) = true := by simp; omega
    have g2 : (r.e != 0) = true := by simp; omega
    clear h1
    go_enter Tryz.func6, Tryz.ntmps6
    go_wp2_with fail
    refine A.mono ?_
    rintro e w1 ⟨rfl, f1⟩
    go_wp2_with fail
    refine (HA _ (HE.out.keep f1)).mono ?_
    rintro e w2 ⟨⟨v1, rfl, o1⟩, f2⟩
    replace f1 := f1.trans f2
    clear o1 f2
    go_wp2_with fail
    go_ret
    exact ⟨rfl, f1⟩
  · have g3 : decide ((500 : Int) < (s.size : Int)) = true := decide_eq_true (by omega)
    have g4 : decide (500 < s.size) = true := decide_eq_true h2
    clear h2
    simp only [AsmIs, h1] at HA
    go_enter Tryz.func6, Tryz.ntmps6
    go_wp2_with fail
    refine A.mono ?_
    rintro e w1 ⟨rfl, f1⟩
    go_wp2_with fail
    refine (HA _ (HE.out.keep f1)).mono ?_
    rintro e w2 ⟨⟨v1, rfl, o1⟩, f2⟩
    replace f1 := f1.trans f2
    clear o1 f2
    go_wp2_with fail
    go_ret
    exact ⟨rfl, f1⟩

set_option maxRecDepth 100000 in
set_option maxHeartbeats 4000000 in
theorem blanks_in (b : Int) (s : ByteArray) (x : Int) (w : World) (hE : Env w) (h1 : (asmT b s.data.toList).e = 0) (h2 : s.size ≤ 500) :
    Calls Tryz.prog 6 #[.int .i64 b, .string s, .int .i64 x] w fun e w' => e = .returned (.bool true) ∧ Fr none' w w' := by
  have A := awake_any w hE
  have HA := fun w hE => asmis_any b s w hE
  have HE := hid' hE
  obtain ⟨r, hr⟩ : ∃ r, asmT b s.data.toList = r := ⟨_, rfl⟩
  have hli := asm_line b s.data.toList h1
  rw [hr] at h1 hli
  simp only [AsmIs, hr, h1] at HA
  have HR := hid' (show asmT b s.data.toList = r ∧ r.line = 0 ∧ r.e = 0 ∧ ¬ (b < 0 ∨ 65535 < b) from ⟨hr, hli.1, h1, hli.2⟩)
  have g3 : decide ((500 : Int) < (s.size : Int)) = false := decide_eq_false (by omega)
  have g4 : decide (500 < s.size) = false := decide_eq_false (by omega)
  have HZ := hid' h2
  have HL : Hid (s.data.toList.length = s.size) := by show _ = _; simp
  clear hE h1 h2 hr hli
  go_enter Tryz.func6, Tryz.ntmps6
  go_wp2_with fail
  refine A.mono ?_
  rintro e w1 ⟨rfl, f1⟩
  clear A
  go_wp2_with fail
  refine (HA _ (HE.out.keep f1)).mono ?_
  rintro e w2 ⟨⟨v1, rfl, o1⟩, f2⟩
  replace f1 := f1.trans f2
  have W1 := ws_own o1
  clear HA o1 f2
  go_wp2_with fail
  go_loopw [11, 12, 13] (fun a m i wr => ∃ (k : Nat) (rm : Bool), k ≤ s.size ∧ m = .bool rm ∧ i = .int .i64 (k : Int) ∧ Hid (rm = rmB false (s.data.toList.take k)) ∧ Hid (OB w2 wr a (blkB (chB x) 0 false (s.data.toList.take k)) 4000)) (fun _ _ i _ => s.size - (intOf i).toNat)
  case atStart => exact ⟨0, false, by omega, rfl, rfl, hid' rfl, hid' ⟨Fr.refl _ _, ⟨by simp [blkB], Or.inl ⟨rfl, by simp [blkB]⟩⟩, by simp [blkB]⟩⟩
  case round =>
    clear g3 g4
    obtain ⟨k, rm, hk, rfl, rfl, HM, HO⟩ := hrel
    have hz5 : s.size ≤ 500 := HZ.out
    by_cases hlt : k < s.size
    · have u1 : decide ((k : Int) < (s.size : Int)) = true := decide_eq_true (by omega)
      have u2 : decide (k < s.size) = true := decide_eq_true hlt
      have hkl : k < s.data.toList.length := by rw [HL.out]; exact hlt
      have HK := hid' hkl
      have HL5 : Hid (s.data.toList.length ≤ 500) := by show _ ≤ _; rw [HL.out]; exact HZ.out
      obtain ⟨c, hc⟩ : ∃ c, s.data.toList[k]? = some c := ⟨_, List.getElem?_eq_getElem hkl⟩
      have HC := hid' hc
      have hi : ∀ q : Int, ((c.toNat : Nat) : Int) = q → ∀ w, (Instr.index 9 (.string s) (.int .i64 (k : Int))).run Tryz.prog w = .ok (.int .u8 q) w := fun q hq w => idx_run s k hlt c hc q hq w
      clear hc hkl
      by_cases c10 : c = 10
      · subst c10
        have HI := hi 10 rfl
        obtain ⟨va, wa, R1, oa⟩ := ob_str HO.out ⟨#[32, 59, 32, 120, 58, 32, 121]⟩ [32, 59, 32, 120, 58, 32, 121] 7 rfl rfl (by omega)
        obtain ⟨vb, wb, R2, ob⟩ := ob_byte oa 10 (by omega)
        have ON := hid' (ob_next (ch := chB x) HK.out HL5.out HC.out HM.out ob (by unfold emitB; simp))
        have RN : Hid (false = rmB false (s.data.toList.take (k + 1))) := by show _ = _; rw [rm_next HK.out HC.out HM.out]; rfl
        simp only [show (((10 : UInt8).toNat : Nat) : Int) = 10 from rfl] at R2
        clear oa ob hi HO
        go_wp2_with (at_builtin; first | refine wpList_append_runT rfl _ _ _ _ rfl _ _ rfl rfl _ _ R1 ?_ | refine wpList_append_runT rfl _ _ _ _ rfl _ _ rfl rfl _ _ R2 ?_)
        go_roundw
        case rel => exact ⟨k + 1, false, by omega, rfl, by go_num, RN, ON⟩
        case measure => simp [intOf]; omega
      by_cases c59 : c = 59
      · subst c59
        have HI := hi 59 rfl
        obtain ⟨vb, wb, R2, ob⟩ := ob_byte HO.out 59 (by omega)
        have ON := hid' (ob_next (ch := chB x) HK.out HL5.out HC.out HM.out ob (by unfold emitB; simp))
        have RN : Hid (true = rmB false (s.data.toList.take (k + 1))) := by show _ = _; rw [rm_next HK.out HC.out HM.out]; rfl
        simp only [show (((59 : UInt8).toNat : Nat) : Int) = 59 from rfl] at R2
        clear ob hi HO c10
        go_wp2_with (at_builtin; first | refine wpList_append_runT rfl _ _ _ _ rfl _ _ rfl rfl _ _ R2 ?_)
        go_roundw
        case rel => exact ⟨k + 1, true, by omega, rfl, by go_num, RN, ON⟩
        case measure => simp [intOf]; omega
      have RN : Hid (rm = rmB false (s.data.toList.take (k + 1))) := by
        show _ = _
        rw [rm_next HK.out HC.out HM.out]
        simp [rmB, c10, c59]
      have ne : ∀ d : UInt8, c ≠ d → ∀ m : Nat, d.toNat = m → (((c.toNat : Nat) : Int) == (m : Int)) = false := fun d hd m hm => by
        simp
        intro h
        exact hd (UInt8.toNat_inj.1 (by omega))
      cases rm with
      | true =>
        obtain ⟨q, hq⟩ : ∃ q : Int, ((c.toNat : Nat) : Int) = q := ⟨_, rfl⟩
        have n10 : (q == 10) = false := by rw [← hq]; exact ne 10 c10 10 rfl
        have n59 : (q == 59) = false := by rw [← hq]; exact ne 59 c59 59 rfl
        have HI := hi q hq
        obtain ⟨vb, wb, R2, ob⟩ := ob_byte HO.out c (by omega)
        have ON := hid' (ob_next (ch := chB x) HK.out HL5.out HC.out HM.out ob (by unfold emitB; simp [c10, c59]))
        rw [hq] at R2
        clear ob hi HO c10 c59 ne hq
        go_wp2_with (at_builtin; first | refine wpList_append_runT rfl _ _ _ _ rfl _ _ rfl rfl _ _ R2 ?_)
        go_roundw
        case rel => exact ⟨k + 1, true, by omega, rfl, by go_num, RN, ON⟩
        case measure => simp [intOf]; omega
      | false =>
        cases hsg : isSgn c with
        | false =>
          obtain ⟨q, hq⟩ : ∃ q : Int, ((c.toNat : Nat) : Int) = q := ⟨_, rfl⟩
          have n10 : (q == 10) = false := by rw [← hq]; exact ne 10 c10 10 rfl
          have n59 : (q == 59) = false := by rw [← hq]; exact ne 59 c59 59 rfl
          have hs5 := hsg
          unfold isSgn at hs5
          simp only [Bool.or_eq_false_iff, beq_eq_false_iff_ne] at hs5
          have n44 : (q == 44) = false := by rw [← hq]; exact ne 44 (by simp_all) 44 rfl
          have n58 : (q == 58) = false := by rw [← hq]; exact ne 58 (by simp_all) 58 rfl
          have n91 : (q == 91) = false := by rw [← hq]; exact ne 91 (by simp_all) 91 rfl
          have n93 : (q == 93) = false := by rw [← hq]; exact ne 93 (by simp_all) 93 rfl
          have n43 : (q == 43) = false := by rw [← hq]; exact ne 43 (by simp_all) 43 rfl
          have HI := hi q hq
          obtain ⟨vb, wb, R2, ob⟩ := ob_byte HO.out c (by omega)
          have ON := hid' (ob_next (ch := chB x) HK.out HL5.out HC.out HM.out ob (by unfold emitB; simp [c10, c59, hsg]))
          rw [hq] at R2
          clear ob hi HO c10 c59 ne hq hs5 hsg
          go_wp2_with (at_builtin; first | refine wpList_append_runT rfl _ _ _ _ rfl _ _ rfl rfl _ _ R2 ?_)
          go_roundw
          case rel => exact ⟨k + 1, false, by omega, rfl, by go_num, RN, ON⟩
          case measure => simp [intOf]; omega
        | true =>
          have hs5 := hsg
          unfold isSgn at hs5
          simp only [Bool.or_eq_true, beq_iff_eq] at hs5
          cases hch : chB x k with
          | true =>
            rcases hs5 with (((hd | hd) | hd) | hd) | hd
            · obtain rfl := hd
              have HI := hi 58 rfl
              obtain ⟨va, wa, R1, oa⟩ := ob_str HO.out ⟨#[32, 32]⟩ [32, 32] 2 rfl rfl (by omega)
              obtain ⟨vb, wb, R2, ob⟩ := ob_byte oa 58 (by omega)
              obtain ⟨vc, wc, R3, oc⟩ := ob_byte ob 32 (by omega)
              have ON := hid' (ob_next (ch := chB x) HK.out HL5.out HC.out HM.out oc (by unfold emitB; simp [hch, hsg]))
              simp only [show (((58 : UInt8).toNat : Nat) : Int) = 58 from rfl] at R2
              simp only [show (((32 : UInt8).toNat : Nat) : Int) = 32 from rfl] at R3
              have nch : (bits BinOp.and IntKind.i64 (x / 2 ^ (k % 30)) 1 == 0) = true := hch
              clear oc hi HO c10 c59 ne hsg hch
              clear oa ob
              go_wp2_with (at_builtin; first | refine wpList_append_runT rfl _ _ _ _ rfl _ _ rfl rfl _ _ R1 ?_ | refine wpList_append_runT rfl _ _ _ _ rfl _ _ rfl rfl _ _ R2 ?_ | refine wpList_append_runT rfl _ _ _ _ rfl _ _ rfl rfl _ _ R3 ?_)
              go_roundw
              case rel => exact ⟨k + 1, false, by omega, rfl, by go_num, RN, ON⟩
              case measure => simp [intOf]; omega
            · obtain rfl := hd
              have HI := hi 44 rfl
              obtain ⟨va, wa, R1, oa⟩ := ob_str HO.out ⟨#[32, 32]⟩ [32, 32] 2 rfl rfl (by omega)
              obtain ⟨vb, wb, R2, ob⟩ := ob_byte oa 44 (by omega)
              obtain ⟨vc, wc, R3, oc⟩ := ob_byte ob 32 (by omega)
              have ON := hid' (ob_next (ch := chB x) HK.out HL5.out HC.out HM.out oc (by unfold emitB; simp [hch, hsg]))
              simp only [show (((44 : UInt8).toNat : Nat) : Int) = 44 from rfl] at R2
              simp only [show (((32 : UInt8).toNat : Nat) : Int) = 32 from rfl] at R3
              have nch : (bits BinOp.and IntKind.i64 (x / 2 ^ (k % 30)) 1 == 0) = true := hch
              clear oc hi HO c10 c59 ne hsg hch
              clear oa ob
              go_wp2_with (at_builtin; first | refine wpList_append_runT rfl _ _ _ _ rfl _ _ rfl rfl _ _ R1 ?_ | refine wpList_append_runT rfl _ _ _ _ rfl _ _ rfl rfl _ _ R2 ?_ | refine wpList_append_runT rfl _ _ _ _ rfl _ _ rfl rfl _ _ R3 ?_)
              go_roundw
              case rel => exact ⟨k + 1, false, by omega, rfl, by go_num, RN, ON⟩
              case measure => simp [intOf]; omega
            · obtain rfl := hd
              have HI := hi 91 rfl
              obtain ⟨va, wa, R1, oa⟩ := ob_str HO.out ⟨#[32, 32]⟩ [32, 32] 2 rfl rfl (by omega)
              obtain ⟨vb, wb, R2, ob⟩ := ob_byte oa 91 (by omega)
              obtain ⟨vc, wc, R3, oc⟩ := ob_byte ob 32 (by omega)
              have ON := hid' (ob_next (ch := chB x) HK.out HL5.out HC.out HM.out oc (by unfold emitB; simp [hch, hsg]))
              simp only [show (((91 : UInt8).toNat : Nat) : Int) = 91 from rfl] at R2
              simp only [show (((32 : UInt8).toNat : Nat) : Int) = 32 from rfl] at R3
              have nch : (bits BinOp.and IntKind.i64 (x / 2 ^ (k % 30)) 1 == 0) = true := hch
              clear oc hi HO c10 c59 ne hsg hch
              clear oa ob
              go_wp2_with (at_builtin; first | refine wpList_append_runT rfl _ _ _ _ rfl _ _ rfl rfl _ _ R1 ?_ | refine wpList_append_runT rfl _ _ _ _ rfl _ _ rfl rfl _ _ R2 ?_ | refine wpList_append_runT rfl _ _ _ _ rfl _ _ rfl rfl _ _ R3 ?_)
              go_roundw
              case rel => exact ⟨k + 1, false, by omega, rfl, by go_num, RN, ON⟩
              case measure => simp [intOf]; omega
            · obtain rfl := hd
              have HI := hi 93 rfl
              obtain ⟨va, wa, R1, oa⟩ := ob_str HO.out ⟨#[32, 32]⟩ [32, 32] 2 rfl rfl (by omega)
              obtain ⟨vb, wb, R2, ob⟩ := ob_byte oa 93 (by omega)
              obtain ⟨vc, wc, R3, oc⟩ := ob_byte ob 32 (by omega)
              have ON := hid' (ob_next (ch := chB x) HK.out HL5.out HC.out HM.out oc (by unfold emitB; simp [hch, hsg]))
              simp only [show (((93 : UInt8).toNat : Nat) : Int) = 93 from rfl] at R2
              simp only [show (((32 : UInt8).toNat : Nat) : Int) = 32 from rfl] at R3
              have nch : (bits BinOp.and IntKind.i64 (x / 2 ^ (k % 30)) 1 == 0) = true := hch
              clear oc hi HO c10 c59 ne hsg hch
              clear oa ob
              go_wp2_with (at_builtin; first | refine wpList_append_runT rfl _ _ _ _ rfl _ _ rfl rfl _ _ R1 ?_ | refine wpList_append_runT rfl _ _ _ _ rfl _ _ rfl rfl _ _ R2 ?_ | refine wpList_append_runT rfl _ _ _ _ rfl _ _ rfl rfl _ _ R3 ?_)
              go_roundw
              case rel => exact ⟨k + 1, false, by omega, rfl, by go_num, RN, ON⟩
              case measure => simp [intOf]; omega
            · obtain rfl := hd
              have HI := hi 43 rfl
              obtain ⟨va, wa, R1, oa⟩ := ob_str HO.out ⟨#[32, 32]⟩ [32, 32] 2 rfl rfl (by omega)
              obtain ⟨vb, wb, R2, ob⟩ := ob_byte oa 43 (by omega)
              obtain ⟨vc, wc, R3, oc⟩ := ob_byte ob 32 (by omega)
              have ON := hid' (ob_next (ch := chB x) HK.out HL5.out HC.out HM.out oc (by unfold emitB; simp [hch, hsg]))
              simp only [show (((43 : UInt8).toNat : Nat) : Int) = 43 from rfl] at R2
              simp only [show (((32 : UInt8).toNat : Nat) : Int) = 32 from rfl] at R3
              have nch : (bits BinOp.and IntKind.i64 (x / 2 ^ (k % 30)) 1 == 0) = true := hch
              clear oc hi HO c10 c59 ne hsg hch
              clear oa ob
              go_wp2_with (at_builtin; first | refine wpList_append_runT rfl _ _ _ _ rfl _ _ rfl rfl _ _ R1 ?_ | refine wpList_append_runT rfl _ _ _ _ rfl _ _ rfl rfl _ _ R2 ?_ | refine wpList_append_runT rfl _ _ _ _ rfl _ _ rfl rfl _ _ R3 ?_)
              go_roundw
              case rel => exact ⟨k + 1, false, by omega, rfl, by go_num, RN, ON⟩
              case measure => simp [intOf]; omega
          | false =>
            rcases hs5 with (((hd | hd) | hd) | hd) | hd
            · obtain rfl := hd
              have HI := hi 58 rfl
              obtain ⟨vb, wb, R2, oc⟩ := ob_byte HO.out 58 (by omega)
              have ON := hid' (ob_next (ch := chB x) HK.out HL5.out HC.out HM.out oc (by unfold emitB; simp [hch, hsg]))
              simp only [show (((58 : UInt8).toNat : Nat) : Int) = 58 from rfl] at R2
              have nch : (bits BinOp.and IntKind.i64 (x / 2 ^ (k % 30)) 1 == 0) = false := hch
              clear oc hi HO c10 c59 ne hsg hch
              go_wp2_with (at_builtin; first | refine wpList_append_runT rfl _ _ _ _ rfl _ _ rfl rfl _ _ R2 ?_)
              go_roundw
              case rel => exact ⟨k + 1, false, by omega, rfl, by go_num, RN, ON⟩
              case measure => simp [intOf]; omega
            · obtain rfl := hd
              have HI := hi 44 rfl
              obtain ⟨vb, wb, R2, oc⟩ := ob_byte HO.out 44 (by omega)
              have ON := hid' (ob_next (ch := chB x) HK.out HL5.out HC.out HM.out oc (by unfold emitB; simp [hch, hsg]))
              simp only [show (((44 : UInt8).toNat : Nat) : Int) = 44 from rfl] at R2
              have nch : (bits BinOp.and IntKind.i64 (x / 2 ^ (k % 30)) 1 == 0) = false := hch
              clear oc hi HO c10 c59 ne hsg hch
              go_wp2_with (at_builtin; first | refine wpList_append_runT rfl _ _ _ _ rfl _ _ rfl rfl _ _ R2 ?_)
              go_roundw
              case rel => exact ⟨k + 1, false, by omega, rfl, by go_num, RN, ON⟩
              case measure => simp [intOf]; omega
            · obtain rfl := hd
              have HI := hi 91 rfl
              obtain ⟨vb, wb, R2, oc⟩ := ob_byte HO.out 91 (by omega)
              have ON := hid' (ob_next (ch := chB x) HK.out HL5.out HC.out HM.out oc (by unfold emitB; simp [hch, hsg]))
              simp only [show (((91 : UInt8).toNat : Nat) : Int) = 91 from rfl] at R2
              have nch : (bits BinOp.and IntKind.i64 (x / 2 ^ (k % 30)) 1 == 0) = false := hch
              clear oc hi HO c10 c59 ne hsg hch
              go_wp2_with (at_builtin; first | refine wpList_append_runT rfl _ _ _ _ rfl _ _ rfl rfl _ _ R2 ?_)
              go_roundw
              case rel => exact ⟨k + 1, false, by omega, rfl, by go_num, RN, ON⟩
              case measure => simp [intOf]; omega
            · obtain rfl := hd
              have HI := hi 93 rfl
              obtain ⟨vb, wb, R2, oc⟩ := ob_byte HO.out 93 (by omega)
              have ON := hid' (ob_next (ch := chB x) HK.out HL5.out HC.out HM.out oc (by unfold emitB; simp [hch, hsg]))
              simp only [show (((93 : UInt8).toNat : Nat) : Int) = 93 from rfl] at R2
              have nch : (bits BinOp.and IntKind.i64 (x / 2 ^ (k % 30)) 1 == 0) = false := hch
              clear oc hi HO c10 c59 ne hsg hch
              go_wp2_with (at_builtin; first | refine wpList_append_runT rfl _ _ _ _ rfl _ _ rfl rfl _ _ R2 ?_)
              go_roundw
              case rel => exact ⟨k + 1, false, by omega, rfl, by go_num, RN, ON⟩
              case measure => simp [intOf]; omega
            · obtain rfl := hd
              have HI := hi 43 rfl
              obtain ⟨vb, wb, R2, oc⟩ := ob_byte HO.out 43 (by omega)
              have ON := hid' (ob_next (ch := chB x) HK.out HL5.out HC.out HM.out oc (by unfold emitB; simp [hch, hsg]))
              simp only [show (((43 : UInt8).toNat : Nat) : Int) = 43 from rfl] at R2
              have nch : (bits BinOp.and IntKind.i64 (x / 2 ^ (k % 30)) 1 == 0) = false := hch
              clear oc hi HO c10 c59 ne hsg hch
              go_wp2_with (at_builtin; first | refine wpList_append_runT rfl _ _ _ _ rfl _ _ rfl rfl _ _ R2 ?_)
              go_roundw
              case rel => exact ⟨k + 1, false, by omega, rfl, by go_num, RN, ON⟩
              case measure => simp [intOf]; omega
    · obtain rfl : k = s.size := by omega
      obtain ⟨w4, hw4⟩ : ∃ w4, w4 = wr := ⟨wr, rfl⟩
      subst hw4
      have u1 : decide ((s.size : Int) < (s.size : Int)) = false := decide_eq_false (by omega)
      have u2 : decide (s.size < s.size) = false := decide_eq_false (by omega)
      have ht : s.data.toList.take s.size = s.data.toList := by rw [← HL.out]; exact List.take_length
      have ho := HO.out
      rw [ht] at ho
      obtain ⟨va, wa, R1, oa⟩ := ob_str ho ⟨#[32, 32]⟩ [32, 32] 2 rfl rfl (by omega)
      have R2 := ob_string oa (by simp)
      obtain ⟨z, hz⟩ : ∃ z : ByteArray, z = ⟨(blkB (chB x) 0 false s.data.toList ++ [32, 32]).toArray⟩ := ⟨_, rfl⟩
      rw [← hz] at R2
      have hzl : z.data.toList = blkB (chB x) 0 false s.data.toList ++ [32, 32] := by rw [hz]
      have W1' := W1.keep0 oa.1
      have F4 := f1.trans oa.1
      have B1 := asmis_any b z wa (HE.out.keep F4)
      rw [hzl] at B1
      obtain ⟨hr, hl0, he0, hbb⟩ := HR.out
      have h5 := HZ.out
      have h6 := HL.out
      by_cases hl : (blkB (chB x) 0 false s.data.toList ++ [32, 32]).length ≤ 4000
      · rw [asm_blanks (chB x) b s.data.toList (by omega) hl, hr] at B1
        simp only [AsmIs, hl0, he0] at B1
        have HS := fun (w : World) (v v' : Value) h h' => same_eq v v' r.ws w (by have := r_len b s.data.toList h5 h6 hr; omega) h h'
        clear oa ho ht hz hzl hr hl0 he0 hbb h5 h6 hl HO HM W1 f1
        go_wp2_with (at_builtin; first | refine wpList_append_runT rfl _ _ _ _ rfl _ _ rfl rfl _ _ R1 ?_)
        refine B1.mono ?_
        rintro e w5 ⟨⟨v2, rfl, o2⟩, f5⟩
        have W2 := ws_own o2
        replace W1' := W1'.keep0 f5
        replace F4 := F4.trans f5
        clear o2 f5 B1
        go_wp2_with fail
        refine (HS _ _ _ W1' W2).mono ?_
        rintro e w6 ⟨rfl, f6⟩
        replace F4 := F4.trans f6
        go_wp2_with fail
        go_ret
        exact ⟨rfl, F4⟩
      · rw [asm_long b _ hbb (by omega)] at B1
        simp only [AsmIs] at B1
        clear oa ho ht hz hzl hr hl0 he0 hbb h5 h6 hl HO HM W1 f1
        go_wp2_with (at_builtin; first | refine wpList_append_runT rfl _ _ _ _ rfl _ _ rfl rfl _ _ R1 ?_)
        refine B1.mono ?_
        rintro e w5 ⟨⟨v2, rfl, o2⟩, f5⟩
        replace F4 := F4.trans f5
        clear o2 f5 B1
        go_wp2_with fail
        go_ret
        exact ⟨rfl, F4⟩

theorem blanksl_any (b : Int) (s : ByteArray) (x : Int) (w : World) (hE : Env w) :
    Calls Tryz.prog 6 #[.int .i64 b, .string s, .int .i64 x] w fun e w' => e = .returned (.bool true) ∧ Below w.heap.size w w' := by
  have H : Calls Tryz.prog 6 #[.int .i64 b, .string s, .int .i64 x] w fun e w' => e = .returned (.bool true) ∧ Fr none' w w' := by
    by_cases h : (asmT b s.data.toList).e = 0
    · by_cases h2 : s.size ≤ 500
      · exact blanks_in b s x w hE h h2
      · exact blanks_out b s x w hE (Or.inr ⟨h, by omega⟩)
    · exact blanks_out b s x w hE (Or.inl h)
  exact H.mono fun _ _ ⟨he, hf⟩ => ⟨he, hf.below (Nat.le_refl _) (fun _ h => h.elim)⟩

end Go.Proofs.YtiifadnmiambpaaGreatDoor
