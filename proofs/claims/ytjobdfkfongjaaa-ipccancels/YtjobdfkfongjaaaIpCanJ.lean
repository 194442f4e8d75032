/-
  Proved: the statement IpcCancelsSaid: for every list of acts and every thread the law IpcCancels of the Go text returns true, and each argument reads afterwards as it read before. No condition but the form's own.
-/
import Derived.Test.YtjobdfkfongjaaaIpBo
/- IpCanW -/
namespace Go.Proofs.Ytjobdfkfongjaaa
open Go.RowKit Go.Maps Go.WideMaps Go.Shelf

/-- An Ipc of the law's own, and twice eight numbers. -/
structure Lw2 (w0 w : World) (b : Nat) (S : Ip) (g h : Nat) (f f2 : Int → Int) : Prop where
  ix : Ix w0 w b S (fun k => k = g ∨ k = h)
  ar : Row w g (ar8 f) 49
  br : Row w h (ar8 f2) 49
  hg : w0.heap.size ≤ g
  hh : w0.heap.size ≤ h
  ne : g ≠ h
section
variable {w0 w w1 : World} {b g h : Nat} {S S' : Ip} {f f' f2 f2' : Int → Int}
theorem Lw2.keep0 (l : Lw2 w0 w b S g h f f2) (fr : Fr none' w w1) : Lw2 w0 w1 b S g h f f2 := ⟨l.ix.keep0 fr, l.ar.keep fr (fun h => h), l.br.keep fr (fun h => h), l.hg, l.hh, l.ne⟩
theorem Lw2.prog (l : Lw2 w0 w b S g h f f2) (i : Ix w0 w1 b S' (fun k => k = g ∨ k = h)) (fr : FrO w0 (fun k => k = g ∨ k = h) w w1) : Lw2 w0 w1 b S' g h f f2 := ⟨i, l.ar.keep fr (fun e => e.2 (Or.inl rfl)), l.br.keep fr (fun e => e.2 (Or.inr rfl)), l.hg, l.hh, l.ne⟩
theorem Lw2.set (l : Lw2 w0 w b S g h f f2) {k : Nat} (hk : k < 8) (hs : ∀ j : Nat, j < 8 → j ≠ k → f' j = f j) (hs2 : ∀ j : Nat, j < 8 → j ≠ k → f2' j = f2 j) : Lw2 w0 ((w.setCell ⟨g, k, none⟩ (.int .i64 (f' k))).setCell ⟨h, k, none⟩ (.int .i64 (f2' k))) b S g h f' f2' := by
  have fr1 := fr_set w g k (.int .i64 (f' k)) (Fr.refl (at' g) w)
  have fr2 := fr_set (w.setCell ⟨g, k, none⟩ (.int .i64 (f' k))) h k (.int .i64 (f2' k)) (Fr.refl (at' h) _)
  have r1 := l.ar.setCell k (.int .i64 (f' k))
  rw [ar8_set f f' hk hs] at r1
  have r2 := (l.br.keep fr1 (fun e => l.ne (by have e : h = g := e; exact e.symm))).setCell k (.int .i64 (f2' k))
  rw [ar8_set f2 f2' hk hs2] at r2
  exact ⟨(l.ix.keep fr1 (fun k hk => ⟨by have e : k = g := hk; rw [e]; exact l.hg, Or.inl hk⟩)).keep fr2 (fun k hk => ⟨by have e : k = h := hk; rw [e]; exact l.hh, Or.inr hk⟩), Row.keep r1 fr2 (fun e => l.ne e), r2, l.hg, l.hh, l.ne⟩
theorem Lw2.to (l : Lw2 w0 w b S g h f f2) (e : ∀ j : Nat, j < 8 → f' j = f j) (e2 : ∀ j : Nat, j < 8 → f2' j = f2 j) : Lw2 w0 w b S g h f' f2' := ⟨l.ix, by rw [← ar8_same f f' e]; exact l.ar, by rw [← ar8_same f2 f2' e2]; exact l.br, l.hg, l.hh, l.ne⟩
theorem Lw2.cell (l : Lw2 w0 w b S g h f f2) {k : Nat} (hk : k < 8) : w.cell? ⟨g, k, none⟩ = some (.int .i64 (f k)) ∧ w.cell? ⟨h, k, none⟩ = some (.int .i64 (f2 k)) := by
  rw [show w.cell? ⟨g, k, none⟩ = (ar8 f)[k]? from Row.cell l.ar k, show w.cell? ⟨h, k, none⟩ = (ar8 f2)[k]? from Row.cell l.br k, ar8_at f hk, ar8_at f2 hk]
  exact ⟨rfl, rfl⟩
theorem Lw2.new (i : Ix w0 w b S (fun _ => False)) : Lw2 w0 ((w.alloc (.cells (ar8 fun _ => 0) 49)).alloc (.cells (ar8 fun _ => 0) 49)) b S w.heap.size (w.heap.size + 1) (fun _ => 0) (fun _ => 0) := by
  refine ⟨i.more (((Fr.refl none' w).alloc _).alloc _) (fun k hk => ?_), (row_alloc _ _ _).alloc _, row_alloc1 _ _ _ _, (ix_low i).1, Nat.le_succ_of_le (ix_low i).1, by omega⟩
  rcases hk with rfl | rfl
  · exact ⟨Or.inr (Nat.le_refl _), by simp only [World.size_alloc]; omega⟩
  · exact ⟨Or.inr (by omega), by simp only [World.size_alloc]; omega⟩
end
/-- The first n of F's, then 0. -/
def upT (F : Int → Int) (n : Nat) (c : Int) : Int := if c < (n : Int) then F c else 0

/-! ### what a cancelling leaves -/
theorem can_iv {S : Ip} (ok : Ok S) (iv : Iv S) (t : Int) : Iv (canS S t) := by
  unfold canS
  split
  · rename_i hw
    have hz : (thrT S t).st ≠ 0 := by
      have := wai_st ok t
      rw [hw] at this
      intro e
      rw [e] at this
      cases this
    exact iv.lea ok (ok.inT hz).2
  · exact iv
theorem can_own {S : Ip} (ok : Ok S) (t : Int) : plcS (canS S t) t = 0 ∧ plcO (canS S t) t = -1 ∧ waiB S t = !(plcS S t == 0) := by
  have hw := wai_st ok t
  have hw' : waiB S t = !(plcS S t == 0) := hw
  unfold canS
  cases h : waiB S t with
  | true =>
    rw [h] at hw
    have hz : (thrT S t).st ≠ 0 := fun e => by rw [e] at hw; cases hw
    rw [if_pos rfl]
    refine ⟨?_, ?_, by rw [← h]; exact hw'⟩
    · show (thrT (leaS S t) t).st = 0
      rw [lea_T (ok.inT hz).2, if_pos rfl]
      rfl
    · show (thrT (leaS S t) t).on = -1
      rw [lea_T (ok.inT hz).2, if_pos rfl]
      rfl
  | false =>
    rw [h] at hw
    have hz : (thrT S t).st = 0 := Classical.byContradiction fun e => by
      have : ((thrT S t).st == 0) = false := by simpa using e
      rw [this] at hw
      cases hw
    rw [if_neg (by decide)]
    refine ⟨hz, ?_, by rw [← h]; exact hw'⟩
    have := ok.plT t
    unfold okP at this
    show (thrT S t).on = -1
    omega
theorem can_other {S : Ip} (ok : Ok S) {t x : Int} (hx : x ≠ t) : plcS (canS S t) x = plcS S x ∧ plcO (canS S t) x = plcO S x := by
  unfold canS
  split
  · rename_i hw
    have hz : (thrT S t).st ≠ 0 := by
      have := wai_st ok t
      rw [hw] at this
      intro e
      rw [e] at this
      cases this
    have := lea_T (ok.inT hz).2 x
    rw [if_neg hx] at this
    unfold plcS plcO
    rw [this]
    exact ⟨rfl, rfl⟩
  · exact ⟨rfl, rfl⟩
theorem can_caller {S : Ip} {t : Int} (ok : Ok S) (iv : Iv S) (ok' : Ok (canS S t)) {i : Int} (h : forN (canS S t) i = t) : t < 0 := by
  rcases forN_cases ok' (can_iv ok iv t) i with ⟨h1, _⟩ | ⟨h1, _, h2⟩
  · omega
  · exfalso
    obtain ⟨h4, _⟩ := cal_at ok' (can_iv ok iv t) h2
    rw [h, (can_own ok t).1] at h4
    cases h4

set_option maxRecDepth 100000 in
set_option maxHeartbeats 8000000 in
theorem lcancels_any (a0 : Option Addr) (len cap : Nat) (t : Int) (W : World) (hl : len ≤ 9223372036854775807) (hA : ∃ A, Acs W a0 len A) (ht : I64 t) :
    Calls Try.prog 6 #[.slice a0 len cap, .int .i64 t] W fun e W' => e = .returned (.bool true) ∧ Below W.heap.size W W' := by
  obtain ⟨A, hA⟩ := hA
  have HA : Hid (Acs W a0 len A) := hA
  have HT : Hid (I64 t) := ht
  clear hA ht
  go_enter Try.func6, Try.ntmps6
  go_wp2_with fail
  refine (awake_any W).mono ?_
  rintro e w1 ⟨rfl, F0⟩
  have HP : Hid _ := played_any w1 a0 len cap A (HA.out.keep' F0) hl
  have HF : Hid (Fr none' W w1) := F0
  clear F0
  go_wp2_with fail
  refine Calls.mono HP.out ?_
  clear HP
  rintro e w2 ⟨b, r, K, rfl, _, ix, iv⟩
  generalize plS A K = S at *
  have HL : Hid (Lw2 w1 ((w2.alloc (.cells (ar8 fun _ => 0) 49)).alloc (.cells (ar8 fun _ => 0) 49)) b S w2.heap.size (w2.heap.size + 1) (upT (plcS S) 0) (upT (plcO S) 0)) := (Lw2.new ix).to (fun j _ => by unfold upT; rw [if_neg (by omega)]) (fun j _ => by unfold upT; rw [if_neg (by omega)])
  have HI : Hid (Ok S ∧ Iv S) := ⟨ix.ok, iv⟩
  dsimp only [ar8] at HL
  clear ix iv HA
  go_wp2_with fail
  generalize ((w2.alloc (.cells #[.int .i64 0, .int .i64 0, .int .i64 0, .int .i64 0, .int .i64 0, .int .i64 0, .int .i64 0, .int .i64 0] 49)).alloc (.cells #[.int .i64 0, .int .i64 0, .int .i64 0, .int .i64 0, .int .i64 0, .int .i64 0, .int .i64 0, .int .i64 0] 49)) = w3 at *
  generalize hgg : w2.heap.size + 1 = h at *
  generalize w2.heap.size = g at *
  clear hgg
  go_loopw [10] (fun i wr => ∃ n : Nat, n ≤ 8 ∧ i = .int .i64 (n : Int) ∧ Hid (Lw2 w1 wr b S g h (upT (plcS S) n) (upT (plcO S) n))) (fun i _ => 8 - (intOf i).toNat)
  case atStart => exact ⟨0, by omega, rfl, HL.out⟩
  case round =>
    clear HL
    obtain ⟨n, hn, rfl, hL⟩ := hrel
    by_cases h8 : n < 8
    · have X := xstate hL.out.ix n (i64_of (by omega) (by omega))
      have d8 : decide ((n : Int) < 8) = true := decide_eq_true (by omega)
      go_wp2_with fail
      refine X.mono ?_
      clear X
      rintro e w4 ⟨rfl, f4⟩
      have H4 : Hid (Lw2 w1 w4 b S g h (upT (plcS S) n) (upT (plcO S) n)) := hL.out.keep0 f4
      obtain ⟨c0, c1⟩ := H4.out.cell h8
      have z0 := Row.frozen H4.out.ar n
      have z1 := Row.frozen H4.out.br n
      have hne := H4.out.ne
      have hne2 : h ≠ g := fun e => hne e.symm
      have HE : Hid (Lw2 w1 ((w4.setCell ⟨g, n, none⟩ (.int .i64 (plcS S n))).setCell ⟨h, n, none⟩ (.int .i64 (plcO S n))) b S g h (upT (plcS S) (n + 1)) (upT (plcO S) (n + 1))) := by
        have e1 : upT (plcS S) (n + 1) n = plcS S n := by unfold upT; rw [if_pos (by omega)]
        have e2 : upT (plcO S) (n + 1) n = plcO S n := by unfold upT; rw [if_pos (by omega)]
        have := H4.out.set (f' := upT (plcS S) (n + 1)) (f2' := upT (plcO S) (n + 1)) h8 (fun j _ hj => by
          unfold upT
          by_cases h1 : (j : Int) < (n : Int)
          · rw [if_pos h1, if_pos (by omega)]
          · rw [if_neg h1, if_neg (by omega)]) (fun j _ hj => by
          unfold upT
          by_cases h1 : (j : Int) < (n : Int)
          · rw [if_pos h1, if_pos (by omega)]
          · rw [if_neg h1, if_neg (by omega)])
        rw [e1, e2] at this
        exact this
      clear f4 hL H4
      generalize plcS S (n : Int) = vs at *
      generalize plcO S (n : Int) = vo at *
      go_wp2_with fail
      go_roundw
      case rel => exact ⟨n + 1, by omega, by go_num, HE⟩
      case measure => simp [intOf]; omega
    · have H8 : Hid (n = 8) := by show n = 8; omega
      have d8 : decide ((n : Int) < 8) = false := decide_eq_false (by omega)
      have HLx : Hid (Lw2 w1 wr b S g h (plcS S) (plcO S)) := by
        have := hL.out
        rw [H8.out] at this
        exact this.to (fun j hj => by unfold upT; rw [if_pos (by omega)]) (fun j hj => by unfold upT; rw [if_pos (by omega)])
      have X := xstate HLx.out.ix t HT.out
      clear hL h8
      go_wp2_with fail
      refine X.mono ?_
      clear X
      rintro e w4 ⟨rfl, f4⟩
      have H4 : Hid (Lw2 w1 w4 b S g h (plcS S) (plcO S)) := HLx.out.keep0 f4
      have X := xcancel H4.out.ix t HT.out
      obtain ⟨q1, q2, q3⟩ := can_own HI.out.1 t
      rw [q3] at X
      clear f4 HLx q3
      go_wp2_with fail
      refine X.mono ?_
      clear X
      rintro e w5 ⟨rfl, i5, f5⟩
      have H5 : Hid (Lw2 w1 w5 b (canS S t) g h (plcS S) (plcO S)) := H4.out.prog i5 f5
      have X := xstate H5.out.ix t HT.out
      rw [q1, q2] at X
      clear i5 f5 H4 q1 q2
      go_wp2_with fail
      refine X.mono ?_
      clear X
      rintro e w6 ⟨rfl, f6⟩
      have H6 : Hid (Lw2 w1 w6 b (canS S t) g h (plcS S) (plcO S)) := H5.out.keep0 f6
      clear f6 H5
      go_wp2_with fail
      go_loopw [18] (fun i wr => ∃ n : Nat, n ≤ 8 ∧ i = .int .i64 (n : Int) ∧ Hid (Lw2 w1 wr b (canS S t) g h (plcS S) (plcO S))) (fun i _ => 8 - (intOf i).toNat)
      case atStart => exact ⟨0, by omega, rfl, H6.out⟩
      case round =>
        clear H6 H8
        obtain ⟨n, hn, rfl, hL⟩ := hrel
        by_cases h9 : n < 8
        · have X := xstate hL.out.ix n (i64_of (by omega) (by omega))
          have d9 : decide ((n : Int) < 8) = true := decide_eq_true (by omega)
          go_wp2_with fail
          refine X.mono ?_
          clear X
          rintro e w7 ⟨rfl, f7⟩
          have H7 : Hid (Lw2 w1 w7 b (canS S t) g h (plcS S) (plcO S)) := hL.out.keep0 f7
          have X := xcaller H7.out.ix n
          clear f7 hL
          go_wp2_with fail
          refine X.mono ?_
          clear X
          rintro e w8 ⟨rfl, f8⟩
          have H8 : Hid (Lw2 w1 w8 b (canS S t) g h (plcS S) (plcO S)) := H7.out.keep0 f8
          obtain ⟨c0, c1⟩ := H8.out.cell h9
          have HC : Hid (forN (canS S t) n = t → t < 0) := fun e => can_caller HI.out.1 HI.out.2 H8.out.ix.ok e
          have HX : Hid ((n : Int) ≠ t → plcS (canS S t) n = plcS S n ∧ plcO (canS S t) n = plcO S n) := fun e => can_other HI.out.1 e
          clear f8 H7
          generalize forN (canS S t) (n : Int) = c at *
          by_cases hc : c = t
          · have dc : (c == t) = true := by simpa using hc
            have dt : decide (0 ≤ t) = false := decide_eq_false (by have := HC.out hc; omega)
            have dn : ((n : Int) != t) = true := by
              have h0 := HC.out hc
              have : (n : Int) ≠ t := by omega
              simpa using this
            obtain ⟨e1, e2⟩ := HX.out (by have := HC.out hc; omega)
            rw [e1, e2]
            clear hc e1 e2 HX HC
            go_wp2_with fail
            go_roundw
            case rel => exact ⟨n + 1, by omega, by go_num, H8⟩
            case measure => simp [intOf]; omega
          · have dc : (c == t) = false := by simpa using hc
            by_cases hnt : (n : Int) = t
            · have dn : ((n : Int) != t) = false := by simpa using hnt
              clear hc hnt HX HC
              go_wp2_with fail
              go_roundw
              case rel => exact ⟨n + 1, by omega, by go_num, H8⟩
              case measure => simp [intOf]; omega
            · have dn : ((n : Int) != t) = true := by simpa using hnt
              obtain ⟨e1, e2⟩ := HX.out hnt
              rw [e1, e2]
              clear hc hnt e1 e2 HX HC
              go_wp2_with fail
              go_roundw
              case rel => exact ⟨n + 1, by omega, by go_num, H8⟩
              case measure => simp [intOf]; omega
        · obtain rfl : n = 8 := by omega
          have HZ : Hid (Below W.heap.size W wr) := bel_of' (HF.out.trans hL.out.ix.old)
          clear hL
          generalize plcS S t = a at *
          by_cases ha : a = 0
          · have d1 : (a == 0) = true := by simpa using ha
            have d2 : (a != 0) = false := by simpa using ha
            clear ha
            go_wp2_with fail
            go_ret
            exact ⟨rfl, HZ.out⟩
          · have d1 : (a == 0) = false := by simpa using ha
            have d2 : (a != 0) = true := by simpa using ha
            clear ha
            go_wp2_with fail
            go_ret
            exact ⟨rfl, HZ.out⟩

end Go.Proofs.Ytjobdfkfongjaaa

/- IpCanP -/
namespace Go.Proofs.Ytjobdfkfongjaaa
open Go.ChangeShapes Go.WideShapes Go.ChangeAt Go.RowKit Go.Deep

set_option maxRecDepth 100000 in
theorem lcancels_lifted (os : Os) (started : os.Started) (H : Type) (enc : TypeId × Value → H) :
    ReturnsInHanded {} Try.checked os 6 .any (Rows.ipcCancelsSpec.pre6 enc Try.prog Try.f6 Rows.ipcCancelsRow.domain false) (Rows.ipcCancelsSpec.post enc Try.prog Try.f6 false true false false) := by
  refine returnsInHanded_of_change (C := Try.checked) own_knob started (by kernel_rfl) Try.func6
    (ChangeSpec.witness6 (enc := enc) (C := Try.checked) false ⟨#[], #[.slice none 0 0, .int .i64 0], []⟩ 8 (by kernel_rfl) (by kernel_rfl) (by kernel_rfl) (by kernel_rfl)) ?_
  intro W base args ds gs before hval0 hW hcnd _
  have hval : ∀ (j : Nat) t v, Try.f6.params[j]? = some t → args[j]? = some v → Value.okWide Try.prog W .any base t v := hval0
  have hW' := hW
  obtain ⟨p, q, hA0, hV, rfl, hfz, hnd⟩ := hW
  have hA : DataW.TrodAll enc Try.prog W 0 (fun _ => true) true Try.f6.params.toList args.toList ds p := hA0
  rw [Try.params6] at hA hval
  obtain ⟨v0, vs0, d0, ds0, p0, q0, hargs, rfl, rfl, h0, r0⟩ := trodAll_cons hA
  obtain ⟨v1, vs1, d1, ds1, p1, q1, rfl, rfl, rfl, h1, r1⟩ := trodAll_cons r0
  obtain ⟨rfl, rfl, rfl⟩ := trodAll_nil r1
  obtain rfl : args = #[v0, v1] := by cases args; simp_all
  obtain ⟨rfl, rfl⟩ := trodVars_none hV
  have k0 := h0
  have lt0 : ∀ x ∈ p0, x.block < W.heap.size := by obtain ⟨m, hm⟩ := k0; exact DataW.trod_lt m _ _ _ hm
  obtain ⟨l0, len0, cap0, rfl⟩ := okWide_slice Try.underlying22 (hval 0 22 v0 rfl rfl)
  obtain ⟨hl0, hacts0⟩ : len0 ≤ 9223372036854775807 ∧ (∃ A, Acs W l0 len0 A) := by
    obtain ⟨fuel, hf⟩ := h0
    exact acs_open (by simpa [Value.cells] using hf)
  obtain ⟨a1, rfl, rfl, rfl, w1⟩ := open_int Try.underlying3 (hval 1 3 v1 rfl rfl) h1
  clear hA0 hval0
  refine (lcancels_any l0 len0 cap0 a1 W hl0 hacts0 (bounds_i64 w1)).mono fun e W' ⟨he, bel⟩ => ?_
  subst he
  exact ⟨_, rfl, _, _, _, [], _, [], hW', trodAll_mk1 (shut_bool Try.underlying4 _), (trodAll_cons_mk (Below.trod laid_out (by kernel_rfl) (of_decide_eq_true (by kernel_rfl)) k0 bel lt0) (trodAll_cons_mk (shut_int Try.underlying3 w1) trodAll_mk0)), rfl, bel.frame _, fun h => by cases h⟩

theorem ipcCancels_holds : Rows.IpcCancelsSaid :=
  OpenClaim.holds_of_wide 6 Try.f6 rfl rfl rfl rfl rfl rfl rfl ⟨rfl, rfl, rfl, rfl, rfl⟩ rfl rfl rfl rfl rfl (by kernel_rfl) Try.func6 (by kernel_rfl)
    (of_decide_eq_true (by kernel_rfl)) (by unfold Func.isWrapper; first | (rw [if_pos (by decide +kernel)]; kernel_rfl) | (rw [if_neg (by decide +kernel)]; exact ⟨rfl, rfl⟩))
    (fun os started H enc _ => lcancels_lifted os started H enc)
#print axioms ipcCancels_holds

end Go.Proofs.Ytjobdfkfongjaaa

