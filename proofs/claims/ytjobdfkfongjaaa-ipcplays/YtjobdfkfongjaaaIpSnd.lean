/-
  Package ipc's Send over the translation. No statement is proved here.
-/
import Derived.Test.YtjobdfkfongjaaaIpSen
namespace Go.Proofs.Ytjobdfkfongjaaa
open Go.RowKit Go.Maps Go.WideMaps

set_option maxRecDepth 100000 in
set_option maxHeartbeats 2000000 in
theorem In.send {w0 w : World} {p0 p : Pb} {S0 S : Ip} {b : Nat} (h : In w0 p0 S0 b w p S) (ep t : Int) (m : Ms) (call block : Bool) (he64 : I64 ep) (ht64 : I64 t) :
    Calls Try.prog 19 #[pv b, .int .i64 ep, .int .i64 t, msV m, .bool call, .bool block] w fun e w' => ∃ p', e = .returned (.tuple #[.int .i64 (senN S ep t m), .int .i64 (senE S ep t m)]) ∧ In w0 p0 S0 b w' p' (senS S ep t m call block) ∧ Kp p S p' (senS S ep t m call block) := by
  have f0 := (Fr.refl none' w).alloc (.cells (msA m) 36)
  have hW := (h.keep0 f0).self
  have rb := row_alloc w (msA m) 36
  have hnb : ¬ p.s S w.heap.size := fun hk => by have := h.chg.is.lt _ hk; omega
  have h3 : I64 3 := i64s (by omega) (by omega)
  dsimp only [msA] at f0 hW rb
  cases hbd : (numB ep && (numB t && mayM m)) with
  | false =>
    obtain ⟨e1, e2, e3⟩ := sen_bad (S := S) (call := call) (block := block) hbd
    rw [e1, e2, e3]
    clear e1 e2 e3 rb hnb
    cases hn1 : numB ep with
    | false =>
      clear hbd
      go_enter Try.func19, Try.ntmps19
      go_wp2_with (first | (go_at_call 56; refine (isn_any _ _).mono ?_; rintro e w1 ⟨rfl, rfl⟩))
      go_ret2
      exact ⟨p, rfl, h.keep0 f0, fun _ _ k => k⟩
    | true =>
      cases hn2 : numB t with
      | false =>
        clear hbd
        go_enter Try.func19, Try.ntmps19
        go_wp2_with (first | (go_at_call 56; refine (isn_any _ _).mono ?_; rintro e w1 ⟨rfl, rfl⟩))
        go_ret2
        exact ⟨p, rfl, h.keep0 f0, fun _ _ k => k⟩
      | true =>
        have hm : mayM m = false := by simpa [hn1, hn2] using hbd
        clear hbd
        go_enter Try.func19, Try.ntmps19
        go_wp2_with (first | (go_at_call 56; refine (isn_any _ _).mono ?_; rintro e w1 ⟨rfl, rfl⟩) | (go_at_call 57; refine (may_any m _).mono ?_; rintro e w1 ⟨rfl, f1⟩))
        go_ret2
        exact ⟨p, rfl, (h.keep0 f0).keep0 f1, fun _ _ k => k⟩
  | true =>
    obtain ⟨hn1, hn2, hm⟩ : numB ep = true ∧ numB t = true ∧ mayM m = true := by simpa using hbd
    cases hw : waiB S t with
    | true =>
      obtain ⟨e1, e2, e3⟩ := sen_wait (S := S) (call := call) (block := block) hbd hw
      rw [e1, e2, e3]
      clear e1 e2 e3 rb hnb hbd
      go_enter Try.func19, Try.ntmps19
      go_wp2_with (first | (go_at_call 56; refine (isn_any _ _).mono ?_; rintro e w1 ⟨rfl, rfl⟩) | (go_at_call 57; refine (may_any m _).mono ?_; rintro e w1 ⟨rfl, f1⟩) | (go_at_call 54; refine ((hW.keep0 f1).waits ht64).mono ?_; rintro e w2 ⟨rfl, f2⟩))
      go_ret2
      exact ⟨p, rfl, ((h.keep0 f0).keep0 f1).keep0 f2, fun _ _ k => k⟩
    | false =>
      have e0 := sen_e0 (S := S) hbd hw
      rw [e0]
      cases hf : firO S 3 ep with
      | none =>
        obtain ⟨e1, e2, e3⟩ := sen_none (call := call) e0 hf
        rw [e1]
        cases block with
        | false =>
          rw [e2]
          clear e0 e1 e2 e3 rb hnb hbd
          go_enter Try.func19, Try.ntmps19
          go_wp2_with (first | (go_at_call 56; refine (isn_any _ _).mono ?_; rintro e w1 ⟨rfl, rfl⟩) | (go_at_call 57; refine (may_any m _).mono ?_; rintro e w1 ⟨rfl, f1⟩) | (go_at_call 54; refine ((hW.keep0 f1).waits ht64).mono ?_; rintro e w2 ⟨rfl, f2⟩) | (go_at_call 52; refine (receivers_any _ _).mono ?_; rintro e w3 ⟨rfl, f3⟩) | (go_at_call 58; refine ((((hW.keep0 f1).keep0 f2).keep0 f3).first_none h3 he64 hf).mono ?_; rintro e w4 ⟨rfl, f4⟩))
          go_ret2
          exact ⟨p, rfl, ((((h.keep0 f0).keep0 f1).keep0 f2).keep0 f3).keep0 f4, fun _ _ k => k⟩
        | true =>
          rw [e3]
          have h0 : (thrT (thrS S t) t).st = 0 := by rw [thrT_of (thr_at S t)]; exact thrT_0 h.ok hw
          clear e0 e1 e2 e3 hbd
          go_enter Try.func19, Try.ntmps19
          go_wp2_with (first | (go_at_call 56; refine (isn_any _ _).mono ?_; rintro e w1 ⟨rfl, rfl⟩) | (go_at_call 57; refine (may_any m _).mono ?_; rintro e w1 ⟨rfl, f1⟩) | (go_at_call 54; refine ((hW.keep0 f1).waits ht64).mono ?_; rintro e w2 ⟨rfl, f2⟩) | (go_at_call 52; refine (receivers_any _ _).mono ?_; rintro e w3 ⟨rfl, f3⟩) | (go_at_call 58; refine ((((hW.keep0 f1).keep0 f2).keep0 f3).first_none h3 he64 hf).mono ?_; rintro e w4 ⟨rfl, f4⟩))
          have rb4 := ((((hW.keep0 f1).keep0 f2).keep0 f3).keep0 f4).row rb hnb
          obtain ⟨b0, b1, b2, b3, b4, b5, b6⟩ := box7 rb4
          clear rb4
          go_region_with (first | (go_at_call 60; refine (In.thread (b := b) (by exact ((((hW.keep0 f1).keep0 f2).keep0 f3).keep0 f4).keep0 (Fr.refl none' _).drew) hn2).mono ?_; rintro e w5 ⟨gt, p1, rfl, h5, k5, q5⟩; have rb5 := h5.row rb hnb; obtain ⟨d0, d1, d2, d3, d4, d5, d6⟩ := box7 rb5; clear rb5) | (go_at_call 59; refine (h5.later k5 h0 hn1 hm call).mono ?_; rintro e w6 ⟨v6, p2, rfl, h6, q6⟩))
          all_goals go_wp2
          all_goals go_ret2
          all_goals exact ⟨p2, rfl, (h.keep0 f0).join h6, fun x g' k => q6 _ _ (q5 _ _ k)⟩
      | some r =>
        obtain ⟨e1, e2, e3⟩ := sen_some (block := block) e0 hf
        have hst : (thrT S r).st ≠ 0 := by
          obtain ⟨u, hu, hs, _⟩ := h.ok.first hf
          rw [thrT_of hu, hs]
          omega
        have hr : 0 ≤ r ∧ r ≤ 1023 := by
          obtain ⟨u, hu, _⟩ := h.ok.first hf
          exact fnd_pos h.ok.gl hu
        rw [e1]
        cases call with
        | false =>
          rw [e2]
          clear e0 e1 e2 e3 hbd
          go_enter Try.func19, Try.ntmps19
          go_wp2_with (first | (go_at_call 56; refine (isn_any _ _).mono ?_; rintro e w1 ⟨rfl, rfl⟩) | (go_at_call 57; refine (may_any m _).mono ?_; rintro e w1 ⟨rfl, f1⟩) | (go_at_call 54; refine ((hW.keep0 f1).waits ht64).mono ?_; rintro e w2 ⟨rfl, f2⟩) | (go_at_call 52; refine (receivers_any _ _).mono ?_; rintro e w3 ⟨rfl, f3⟩) | (go_at_call 58; refine ((((hW.keep0 f1).keep0 f2).keep0 f3).first_some h3 he64 hf).mono ?_; rintro e w4 ⟨g, rfl, f4, k0⟩) | (go_at_call 55; refine (((((hW.keep0 f1).keep0 f2).keep0 f3).keep0 f4).leave k0 hst).mono ?_; rintro e w5 ⟨v5, p1, rfl, h5, q5⟩; have rb5 := h5.row rb hnb; obtain ⟨d0, d1, d2, d3, d4, d5, d6⟩ := box7 rb5; clear rb5) | (go_at_call 61; refine (h5.deliver (q5 _ _ k0) hm).mono ?_; rintro e w6 ⟨v6, rfl, h6, q6⟩; have cid := h6.id (q6 _ _ (q5 _ _ k0))))
          go_ret2
          exact ⟨p1, rfl, (h.keep0 f0).join h6, fun x g' k => q6 _ _ (q5 _ _ k)⟩
        | true =>
          rw [e3]
          have h0 := sen_h0 (m := m) h.ok hw hf
          have hP : okP 4 r := okP_an (by omega) (by omega)
          clear e0 e1 e2 e3 hbd
          go_enter Try.func19, Try.ntmps19
          go_wp2_with (first | (go_at_call 56; refine (isn_any _ _).mono ?_; rintro e w1 ⟨rfl, rfl⟩) | (go_at_call 57; refine (may_any m _).mono ?_; rintro e w1 ⟨rfl, f1⟩) | (go_at_call 54; refine ((hW.keep0 f1).waits ht64).mono ?_; rintro e w2 ⟨rfl, f2⟩) | (go_at_call 52; refine (receivers_any _ _).mono ?_; rintro e w3 ⟨rfl, f3⟩) | (go_at_call 58; refine ((((hW.keep0 f1).keep0 f2).keep0 f3).first_some h3 he64 hf).mono ?_; rintro e w4 ⟨g, rfl, f4, k0⟩) | (go_at_call 55; refine (((((hW.keep0 f1).keep0 f2).keep0 f3).keep0 f4).leave k0 hst).mono ?_; rintro e w5 ⟨v5, p1, rfl, h5, q5⟩; have rb5 := h5.row rb hnb; obtain ⟨d0, d1, d2, d3, d4, d5, d6⟩ := box7 rb5; clear rb5) | (go_at_call 61; refine (h5.deliver (q5 _ _ k0) hm).mono ?_; rintro e w6 ⟨v6, rfl, h6, q6⟩; have cid := h6.id (q6 _ _ (q5 _ _ k0))))
          go_region_with (first | (go_at_call 60; refine (In.thread (b := b) (by first | with_reducible exact h6.keep0 (Fr.refl none' _).drew | with_reducible exact h6.keep0 ((Fr.refl none' _).drew.trans f7)) hn2).mono ?_; rintro e w8 ⟨gt, p3, rfl, h8, k8, q8⟩; have cid8 := h8.id (q8 _ _ (q6 _ _ (q5 _ _ k0)))) | (go_at_call 63; refine (answer_any _ _).mono ?_; rintro e w7 ⟨rfl, f7⟩) | (go_at_call 62; refine (In.enter (b := b) (by first | with_reducible exact h8.keep0 f7 | with_reducible exact h8) k8 h0 hP (by omega)).mono ?_; rintro e w9 ⟨v9, p4, rfl, h9, q9⟩; have cid9 := h9.id (q9 _ _ (q8 _ _ (q6 _ _ (q5 _ _ k0))))))
          all_goals go_wp2
          all_goals go_ret2
          all_goals exact ⟨p4, rfl, (h.keep0 f0).join h9, fun x g' k => q9 _ _ (q8 _ _ (q6 _ _ (q5 _ _ k)))⟩

end Go.Proofs.Ytjobdfkfongjaaa
