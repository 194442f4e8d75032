/-
  Proved: the statement IpcOnceSaid: for every list of acts the law IpcOnce of the Go text returns true, and each argument reads afterwards as it read before. No condition but the form's own.
-/
import Derived.Test.YtjobdfkfongjaaaIpBo
/- IpOncW -/
namespace Go.Proofs.Ytjobdfkfongjaaa
open Go.RowKit Go.Maps Go.WideMaps Go.Shelf

/-- Is it a caller of one of the first t threads? -/
def onC (S : Ip) (t : Nat) (c : Int) : Int := if plcS S c = 4 ∧ 0 ≤ plcO S c ∧ plcO S c < (t : Int) then 1 else 0
theorem onC_0 (S : Ip) (c : Int) : onC S 0 c = 0 := by unfold onC; rw [if_neg (fun h => by omega)]
theorem onC_none {S : Ip} (ok : Ok S) (iv : Iv S) {t : Nat} (e : calO S t = none) (c : Int) : onC S (t + 1) c = onC S t c := by
  unfold onC
  by_cases h : plcS S c = 4 ∧ plcO S c = (t : Int)
  · have := cal_of ok iv h.1 h.2 (by omega)
    rw [this] at e
    cases e
  · by_cases h1 : plcS S c = 4 ∧ 0 ≤ plcO S c ∧ plcO S c < (t : Int)
    · rw [if_pos h1, if_pos ⟨h1.1, h1.2.1, by omega⟩]
    · rw [if_neg h1, if_neg (fun h2 => by
        have h3 : ¬ plcO S c = (t : Int) := fun e => h ⟨h2.1, e⟩
        exact h1 ⟨h2.1, h2.2.1, by omega⟩)]
theorem onC_some {S : Ip} (ok : Ok S) (iv : Iv S) {t : Nat} {d : Int} (e : calO S t = some d) : onC S t d = 0 ∧ onC S (t + 1) d = 1 ∧ ∀ c, c ≠ d → onC S (t + 1) c = onC S t c := by
  obtain ⟨h4, ho, _, _, _⟩ := cal_at ok iv e
  refine ⟨?_, ?_, fun c hc => ?_⟩
  · unfold onC
    rw [if_neg (fun h => by omega)]
  · unfold onC
    rw [if_pos ⟨h4, by omega, by omega⟩]
  · unfold onC
    by_cases h : plcS S c = 4 ∧ plcO S c = (t : Int)
    · have := cal_of ok iv h.1 h.2 (by omega)
      rw [this] at e
      exact absurd (Option.some.inj e) hc
    · by_cases h1 : plcS S c = 4 ∧ 0 ≤ plcO S c ∧ plcO S c < (t : Int)
      · rw [if_pos h1, if_pos ⟨h1.1, h1.2.1, by omega⟩]
      · rw [if_neg h1, if_neg (fun h2 => by
          have h3 : ¬ plcO S c = (t : Int) := fun e => h ⟨h2.1, e⟩
          exact h1 ⟨h2.1, h2.2.1, by omega⟩)]
theorem onC_01 (S : Ip) (t : Nat) (c : Int) : onC S t c = 0 ∨ onC S t c = 1 := by
  unfold onC
  split
  · exact Or.inr rfl
  · exact Or.inl rfl

set_option maxRecDepth 100000 in
set_option maxHeartbeats 4000000 in
theorem lonce_any (a0 : Option Addr) (len cap : Nat) (W : World) (hl : len ≤ 9223372036854775807) (hA : ∃ A, Acs W a0 len A) :
    Calls Try.prog 4 #[.slice a0 len cap] W fun e W' => e = .returned (.bool true) ∧ Below W.heap.size W W' := by
  obtain ⟨A, hA⟩ := hA
  have HA : Hid (Acs W a0 len A) := hA
  clear hA
  go_enter Try.func4, Try.ntmps4
  go_wp2_with fail
  refine (awake_any W).mono ?_
  rintro e w1 ⟨rfl, F0⟩
  have HP : Hid _ := played_any w1 a0 len cap A (HA.out.keep' F0) hl
  have HF : Hid (Fr none' W w1) := F0
  clear F0
  go_wp2_with fail
  refine Calls.mono HP.out ?_
  clear HP
  rintro e w2 ⟨b, r, K, rfl, _, ix, iv⟩
  generalize plS A K = S at *
  have HL : Hid (Lw w1 (w2.alloc (.cells (ar8 fun _ => 0) 49)) b S w2.heap.size (onC S 0)) := (Lw.new ix).to fun j _ => onC_0 S j
  have HI : Hid (Ok S ∧ Iv S) := ⟨ix.ok, iv⟩
  dsimp only [ar8] at HL
  clear ix iv HA
  go_wp2_with fail
  generalize (w2.alloc (.cells #[.int .i64 0, .int .i64 0, .int .i64 0, .int .i64 0, .int .i64 0, .int .i64 0, .int .i64 0, .int .i64 0] 49)) = w3 at *
  generalize w2.heap.size = g at *
  go_loopw [7] (fun i wr => ∃ t : Nat, t ≤ 8 ∧ i = .int .i64 (t : Int) ∧ Hid (Lw w1 wr b S g (onC S t))) (fun i _ => 8 - (intOf i).toNat)
  case atStart => exact ⟨0, by omega, rfl, HL.out⟩
  case round =>
    clear HL
    obtain ⟨t, ht, rfl, hL⟩ := hrel
    by_cases h8 : t < 8
    · have X := xcaller hL.out.ix t
      have d8 : decide ((t : Int) < 8) = true := decide_eq_true (by omega)
      go_wp2_with fail
      refine X.mono ?_
      clear X
      rintro e w4 ⟨rfl, f4⟩
      have H4 : Hid (Lw w1 w4 b S g (onC S t)) := hL.out.keep0 f4
      clear f4 hL
      have hc := forN_cases HI.out.1 HI.out.2 (t : Int)
      generalize forN S (t : Int) = c at *
      rcases hc with ⟨rfl, hn⟩ | ⟨hc0, hc1, hn⟩
      · have HE : Hid (Lw w1 w4 b S g (onC S (t + 1))) := H4.out.to fun j _ => onC_none HI.out.1 HI.out.2 hn j
        clear hn
        go_wp2_with fail
        go_roundw
        case rel => exact ⟨t + 1, by omega, by go_num, HE⟩
        case measure => simp [intOf]; omega
      · have dn : decide (c < 0) = false := decide_eq_false (by omega)
        have Y := xstate H4.out.ix c (i64_of (by omega) (by omega))
        obtain ⟨p4, po, _, _, _⟩ := cal_at HI.out.1 HI.out.2 hn
        rw [p4, po] at Y
        have HS : Hid _ := onC_some HI.out.1 HI.out.2 hn
        clear p4 po hn
        go_wp2_with fail
        refine Y.mono ?_
        clear Y
        rintro e w5 ⟨rfl, f5⟩
        have H5 : Hid (Lw w1 w5 b S g (onC S t)) := H4.out.keep0 f5
        clear f5 H4
        by_cases hc8 : c < 8
        · have dc : decide (c < 8) = true := decide_eq_true hc8
          obtain ⟨k, rfl⟩ : ∃ k : Nat, c = (k : Int) := ⟨c.toNat, by omega⟩
          have hk : k < 8 := by omega
          have c0 := H5.out.cell hk
          have z0 := H5.out.frozen k
          have HE : Hid (Lw w1 (w5.setCell ⟨g, k, none⟩ (.int .i64 1)) b S g (onC S (t + 1))) := by
            have := H5.out.set (f' := onC S (t + 1)) hk (fun j _ hj => HS.out.2.2 j (fun e => hj (by omega)))
            rw [HS.out.2.1] at this
            exact this
          rw [HS.out.1] at c0
          clear H5 HS
          go_wp2_with fail
          go_roundw
          case rel => exact ⟨t + 1, by omega, by go_num, HE⟩
          case measure => simp [intOf]; omega
        · have dc : decide (c < 8) = false := decide_eq_false hc8
          have HE : Hid (Lw w1 w5 b S g (onC S (t + 1))) := H5.out.to fun j hj => HS.out.2.2 j (fun e => by omega)
          clear H5 HS
          go_wp2_with fail
          go_roundw
          case rel => exact ⟨t + 1, by omega, by go_num, HE⟩
          case measure => simp [intOf]; omega
    · have H8 : Hid (t = 8) := by show t = 8; omega
      have d8 : decide ((t : Int) < 8) = false := decide_eq_false (by omega)
      have HLx : Hid (Lw w1 wr b S g (onC S 8)) := by
        have := hL.out
        rw [H8.out] at this
        exact this
      clear hL h8
      go_wp2_with fail
      go_loopw [11] (fun i wr => ∃ t : Nat, t ≤ 8 ∧ i = .int .i64 (t : Int) ∧ Hid (Lw w1 wr b S g (onC S 8))) (fun i _ => 8 - (intOf i).toNat)
      case atStart => exact ⟨0, by omega, rfl, HLx.out⟩
      case round =>
        clear HLx
        obtain ⟨t, ht2, rfl, hL⟩ := hrel
        by_cases h9 : t < 8
        · have X := xstate hL.out.ix t (i64_of (by omega) (by omega))
          have d8 : decide ((t : Int) < 8) = true := decide_eq_true (by omega)
          go_wp2_with fail
          refine X.mono ?_
          clear X
          rintro e w4 ⟨rfl, f4⟩
          have H4 : Hid (Lw w1 w4 b S g (onC S 8)) := hL.out.keep0 f4
          have c0 := H4.out.cell h9
          have HD : Hid (onC S 8 (t : Int) = if plcS S t = 4 ∧ 0 ≤ plcO S t ∧ plcO S t < 8 then 1 else 0) := rfl
          clear f4 hL
          generalize plcS S (t : Int) = s at *
          generalize plcO S (t : Int) = o at *
          by_cases e4 : s = 4
          · have b4 : (s == 4) = true := by simpa using e4
            by_cases e0 : 0 ≤ o
            · have b0 : decide (0 ≤ o) = true := decide_eq_true e0
              by_cases e8 : o < 8
              · have b8 : decide (o < 8) = true := decide_eq_true e8
                have : onC S 8 (t : Int) = 1 := by rw [HD.out, if_pos ⟨e4, e0, e8⟩]
                rw [this] at c0
                clear this HD e4
                go_wp2_with fail
                go_roundw
                case rel => exact ⟨t + 1, by omega, by go_num, H4⟩
                case measure => simp [intOf]; omega
              · have b8 : decide (o < 8) = false := decide_eq_false e8
                have : onC S 8 (t : Int) = 0 := by rw [HD.out, if_neg (fun h => e8 h.2.2)]
                rw [this] at c0
                clear this HD e4
                go_wp2_with fail
                go_roundw
                case rel => exact ⟨t + 1, by omega, by go_num, H4⟩
                case measure => simp [intOf]; omega
            · have b0 : decide (0 ≤ o) = false := decide_eq_false e0
              have : onC S 8 (t : Int) = 0 := by rw [HD.out, if_neg (fun h => e0 h.2.1)]
              rw [this] at c0
              clear this HD e4
              go_wp2_with fail
              go_roundw
              case rel => exact ⟨t + 1, by omega, by go_num, H4⟩
              case measure => simp [intOf]; omega
          · have b4 : (s == 4) = false := by simpa using e4
            have : onC S 8 (t : Int) = 0 := by rw [HD.out, if_neg (fun h => e4 h.1)]
            rw [this] at c0
            clear this HD e4
            go_wp2_with fail
            go_roundw
            case rel => exact ⟨t + 1, by omega, by go_num, H4⟩
            case measure => simp [intOf]; omega
        · obtain rfl : t = 8 := by omega
          go_wp2_with fail
          go_ret
          exact ⟨rfl, bel_law HF.out hL.out⟩

end Go.Proofs.Ytjobdfkfongjaaa

/- IpOncP -/
namespace Go.Proofs.Ytjobdfkfongjaaa
open Go.ChangeShapes Go.WideShapes Go.ChangeAt Go.RowKit Go.Deep

set_option maxRecDepth 100000 in
theorem lonce_lifted (os : Os) (started : os.Started) (H : Type) (enc : TypeId × Value → H) :
    ReturnsInHanded {} Try.checked os 4 .any (Rows.ipcOnceSpec.pre6 enc Try.prog Try.f4 Rows.ipcOnceRow.domain false) (Rows.ipcOnceSpec.post enc Try.prog Try.f4 false true false false) := by
  refine returnsInHanded_of_change (C := Try.checked) own_knob started (by kernel_rfl) Try.func4
    (ChangeSpec.witness6 (enc := enc) (C := Try.checked) false ⟨#[], #[.slice none 0 0], []⟩ 8 (by kernel_rfl) (by kernel_rfl) (by kernel_rfl) (by kernel_rfl)) ?_
  intro W base args ds gs before hval0 hW hcnd _
  have hval : ∀ (j : Nat) t v, Try.f4.params[j]? = some t → args[j]? = some v → Value.okWide Try.prog W .any base t v := hval0
  have hW' := hW
  obtain ⟨p, q, hA0, hV, rfl, hfz, hnd⟩ := hW
  have hA : DataW.TrodAll enc Try.prog W 0 (fun _ => true) true Try.f4.params.toList args.toList ds p := hA0
  rw [Try.params4] at hA hval
  obtain ⟨v0, vs0, d0, ds0, p0, q0, hargs, rfl, rfl, h0, r0⟩ := trodAll_cons hA
  obtain ⟨rfl, rfl, rfl⟩ := trodAll_nil r0
  obtain rfl : args = #[v0] := by cases args; simp_all
  obtain ⟨rfl, rfl⟩ := trodVars_none hV
  have k0 := h0
  have lt0 : ∀ x ∈ p0, x.block < W.heap.size := by obtain ⟨m, hm⟩ := k0; exact DataW.trod_lt m _ _ _ hm
  obtain ⟨l0, len0, cap0, rfl⟩ := okWide_slice Try.underlying22 (hval 0 22 v0 rfl rfl)
  obtain ⟨hl0, hacts0⟩ : len0 ≤ 9223372036854775807 ∧ (∃ A, Acs W l0 len0 A) := by
    obtain ⟨fuel, hf⟩ := h0
    exact acs_open (by simpa [Value.cells] using hf)
  clear hA0 hval0
  refine (lonce_any l0 len0 cap0 W hl0 hacts0).mono fun e W' ⟨he, bel⟩ => ?_
  subst he
  exact ⟨_, rfl, _, _, _, [], _, [], hW', trodAll_mk1 (shut_bool Try.underlying4 _), (trodAll_cons_mk (Below.trod laid_out (by kernel_rfl) (of_decide_eq_true (by kernel_rfl)) k0 bel lt0) trodAll_mk0), rfl, bel.frame _, fun h => by cases h⟩

theorem ipcOnce_holds : Rows.IpcOnceSaid :=
  OpenClaim.holds_of_wide 4 Try.f4 rfl rfl rfl rfl rfl rfl rfl ⟨rfl, rfl, rfl, rfl, rfl⟩ rfl rfl rfl rfl rfl (by kernel_rfl) Try.func4 (by kernel_rfl)
    (of_decide_eq_true (by kernel_rfl)) (by unfold Func.isWrapper; first | (rw [if_pos (by decide +kernel)]; kernel_rfl) | (rw [if_neg (by decide +kernel)]; exact ⟨rfl, rfl⟩))
    (fun os started H enc _ => lonce_lifted os started H enc)
#print axioms ipcOnce_holds

end Go.Proofs.Ytjobdfkfongjaaa

