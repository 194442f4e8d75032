/-
  Contracts of package sched's Tick and mostUrgent over the translation. No statement is proved here.
-/
import Derived.Test.YtipfgenbfnkpfaaSdNext
import Derived.Test.YtipfgenbfnkpfaaSdOk
namespace Go.Proofs.Ytipfgenbfnkpfaa
open Go.RowKit Go.Maps Go.WideMaps

theorem OkQ.cur {S : Sd} (h : OkQ S) : CurOk S := by
  rcases h.cu with e | ⟨t, e, _⟩
  · exact Or.inl e
  · exact Or.inr ⟨t, e⟩
theorem OkQ.sh {S : Sd} (h : OkQ S) : Sh S := fun j _ => Nat.le_trans (h.len j) (by omega)

set_option maxRecDepth 100000 in
set_option maxHeartbeats 1000000 in
theorem tick_any (w : World) (p : Pb) (S : Sd) (h : IsS w p S) (ok : Ok S) :
    Calls Try.prog 21 #[.pointer (some ⟨p.b, 0, none⟩)] w fun e w' => ∃ v, e = .returned v ∧ ∃ p', p'.b = p.b ∧ Chg w p S w' p' (ticS S) := by
  obtain ⟨r1, r2, r3⟩ := speS_rest S
  have okT := okq_spend ok.q
  have H1 : Hid (Calls Try.prog 52 #[.pointer (some ⟨p.b, 0, none⟩)] w fun e w1 => ∃ v, e = .returned v ∧ w1.cell? ⟨p.b, 260, none⟩ = some (.int .i64 S.lf) ∧ w1.frozen? ⟨p.b, 260, none⟩ = false ∧ Hid (∃ p1, p1.b = p.b ∧ Chg w p S w1 p1 (speS S))) := (spend_any w p S h ok.q.cur (fun hc => ok.q.sl _ (fnd_mem (ok.q.get hc).1).1) ok.q.sh).mono (by
    rintro e w1 ⟨v, rfl, p1, e1, C⟩
    have c := C.is.cells.2.2.2.2
    have z := C.is.frozen 260
    rw [e1] at c z
    rw [r3] at c
    exact ⟨v, rfl, c, z, p1, e1, C⟩)
  have HS : ∀ (n : Int) (w1 : World), (∃ p1, p1.b = p.b ∧ Chg w p S w1 p1 (speS S)) → ∃ p1, p1.b = p.b ∧ Chg w p S (w1.setCell ⟨p.b, 260, none⟩ (.int .i64 n)) p1 { speS S with lf := n } := by
    rintro n w1 ⟨p1, e1, C⟩
    have C2 := C.is.setLeft n
    rw [e1] at C2
    exact ⟨p1, e1, C.trans C2⟩
  have l0 := ok.t.l0
  have l1 := ok.t.l1
  by_cases hl : S.lf = 1
  · have e0 : ticS S = nexS { speS S with lf := 0 } := by unfold ticS; dsimp only; rw [r3, if_pos hl]
    rw [e0]
    have HN : Hid (∀ w1, (∃ p1, p1.b = p.b ∧ Chg w p S w1 p1 (speS S)) → Calls Try.prog 53 #[.pointer (some ⟨p.b, 0, none⟩)] (w1.setCell ⟨p.b, 260, none⟩ (.int .i64 0)) fun e w2 => ∃ v, e = .returned v ∧ Hid (∃ p', p'.b = p.b ∧ Chg w p S w2 p' (nexS { speS S with lf := 0 }))) := fun w1 hw1 => by
      obtain ⟨p1, e1, C⟩ := HS 0 w1 hw1
      have ok0 := okq_lf okT 0
      have g1 : GoodT { ({ speS S with lf := 0 } : Sd) with lf := 1 } := ⟨by show ∀ t ∈ (speS S).tb, _; rw [r1]; exact ok.t.ok, by show (speS S).tb.length ≤ 8; rw [r1]; exact ok.t.len, by show (speS S).tn < (speS S).tb.length; rw [r1, r2]; exact ok.t.tn, by show (1 : Int) ≤ 1; omega, by show (1 : Int) ≤ 1000; omega⟩
      have N := next_any _ p1 _ C.is ok0.cur g1 ok0.sh
      rw [e1] at N
      refine N.mono ?_
      rintro e w2 ⟨v, rfl, p2, e2, C2⟩
      exact ⟨v, rfl, p2, e2, C.trans C2⟩
    rw [hl] at H1
    clear h ok HS okT r1 r2 r3 l0 l1 hl e0
    generalize speS S = T at *
    generalize nexS { T with lf := 0 } = X at *
    go_enter Try.func21, Try.ntmps21
    go_wp2_with (first | (go_at_call 53; refine (HN.out _ HC.out).mono ?_; rintro e w2 ⟨v, rfl, HD⟩) | (go_at_call 52; refine H1.out.mono ?_; rintro e w1 ⟨v, rfl, c1, z1, HC⟩))
    refine post_void rfl rfl fun v => ?_
    exact ⟨v, rfl, HD.out⟩
  · have e0 : ticS S = { speS S with lf := S.lf - 1 } := by unfold ticS; dsimp only; rw [r3, if_neg hl]
    rw [e0]
    have HF : Hid (∀ w1, (∃ p1, p1.b = p.b ∧ Chg w p S w1 p1 (speS S)) → ∃ p1, p1.b = p.b ∧ Chg w p S (w1.setCell ⟨p.b, 260, none⟩ (.int .i64 (S.lf - 1))) p1 { speS S with lf := S.lf - 1 }) := HS (S.lf - 1)
    have t1 : (S.lf - 1 == 0) = false := by simp; omega
    have hw : IntKind.i64.wrap (S.lf - 1) = S.lf - 1 := by rw [IntKind.wrap_i64]; omega
    have hw2 : wrap64 (S.lf - 1) = S.lf - 1 := by unfold wrap64; omega
    clear h ok HS okT r1 r2 r3 l0 l1 hl e0
    generalize ({ speS S with lf := S.lf - 1 } : Sd) = X at *
    generalize speS S = T at *
    generalize S.lf = lf at *
    go_enter Try.func21, Try.ntmps21
    go_wp2_with (go_at_call 52; refine H1.out.mono ?_; rintro e w1 ⟨v, rfl, c1, z1, HC⟩)
    refine post_void rfl rfl fun v => ?_
    exact ⟨v, rfl, HF.out _ HC.out⟩

/-- A thread's pointer, or none. -/
def opV (p : Pb) : Option Int → Value
  | none => .pointer none
  | some x => pv (p.B x)

set_option maxRecDepth 100000 in
set_option maxHeartbeats 2000000 in
theorem mu_any (w : World) (p : Pb) (S : Sd) (h : IsS w p S) (oq : OkQ S) (gt : GoodT S) :
    Calls Try.prog 44 #[.pointer (some ⟨p.b, 0, none⟩)] w fun e w' => e = .returned (opV p (urg S (pe S) 64)) ∧ Fr none' w w' := by
  have hb0 : 0 ≤ pe S := gt.pt.d0
  have hb1 : pe S ≤ 3 := gt.pt.d1
  have D : Hid (∀ n, Calls Try.prog 15 #[.pointer (some ⟨p.b, 0, none⟩)] (w.drewN n) fun e w' => e = .returned (.int .i64 (pe S)) ∧ ∃ m, w' = (w.drewN n).drewN m) := fun n => domain_any _ p S (h.keep0 (fr_drewN w n)) gt
  obtain ⟨dn, hdn⟩ : ∃ dn : Nat, pe S = (dn : Int) := ⟨(pe S).toNat, by omega⟩
  rw [hdn] at D ⊢
  have hdl : dn < 4 := by omega
  have i1 : 0 ≤ (dn : Int) ∧ (dn : Int) < 4 := by omega
  have hdt : ((dn : Int)).toNat = dn := by simp
  have HU0 : Hid (∀ k, S.q (dn * 64 + k) = [] → urg S (dn : Int) (k + 1) = urg S (dn : Int) k) := fun k e => by
    rw [urg, hdt, e]
  have HU1 : Hid (∀ k x l, S.q (dn * 64 + k) = x :: l → urg S (dn : Int) (k + 1) = some x) := fun k x l e => by
    rw [urg, hdt, e]
  have HI : Hid (IsS w p S) := h
  have HO : Hid (OkQ S) := oq
  clear h oq gt hb0 hb1 hdn hdt
  go_enter Try.func44, Try.ntmps44
  go_wp2_with fail
  go_quiet (first | (go_at_call 15; refine Calls.quiet_of (D.out _)))
  go_wp2_with fail
  go_loopw [4] (fun a wr => ∃ k : Nat, k ≤ 64 ∧ a = .int .i64 ((k : Int) - 1) ∧ Hid (urg S (dn : Int) 64 = urg S (dn : Int) k) ∧ Fr none' w wr) (fun a _ => (intOf a + 1).toNat)
  case atStart => exact ⟨64, by omega, rfl, rfl, by first | exact (Fr.refl none' w).drew | exact fr_drewN _ _⟩
  case round =>
    obtain ⟨k, hk, rfl, HE, fk⟩ := hrel
    cases k with
    | zero =>
      go_wp2_with fail
      go_ret
      refine ⟨?_, fk⟩
      rw [HE]
      rfl
    | succ k =>
      have ek : (((k + 1 : Nat) : Int) - 1) = (k : Int) := by omega
      rw [ek]
      have hI := HI.out.keep0 fk
      have hj : dn * 64 + k < 256 := by omega
      have cq := hI.cellq _ hj
      rw [← Nat.add_assoc] at cq
      have hq := hI.qu _ hj
      have c0 := hI.cells.1
      have i2 : 0 ≤ (k : Int) ∧ (k : Int) < 64 := by omega
      have hw : wrap64 ((k : Int) - 1) = (k : Int) - 1 := by unfold wrap64; omega
      cases hl : S.q (dn * 64 + k) with
      | nil =>
        have HE2 : Hid (urg S (dn : Int) 64 = urg S (dn : Int) k) := HE.trans (HU0 k hl)
        rw [hl] at hq
        obtain ⟨sa, sc, hv⟩ : ∃ sa sc, p.V (dn * 64 + k) = .slice sa 0 sc := by
          rcases own_form hq with ⟨e, _⟩ | ⟨g, cap, e⟩
          · exact ⟨_, _, e⟩
          · exact ⟨_, _, e⟩
        rw [hv] at cq
        clear hI hq hv hl HE c0
        go_wp2_with fail
        go_roundw
        · exact ⟨k, by omega, rfl, HE2, fk⟩
        · simp [intOf]
      | cons x l =>
        have HR : Hid (urg S (dn : Int) 64 = some x) := HE.trans (HU1 k x l hl)
        obtain ⟨_, t, ht, _, _⟩ := (HO.out.qi.mem (dn * 64 + k) x).1 (by rw [hl]; exact List.mem_cons_self)
        have hxp := fnd_pos HO.out.gl ht
        have hL : ∀ n, _ := fun n => (hI.keep0 (fr_drewN wr n)).map.look0_some (k := x) (by unfold I64; omega) (map_some ht)
        rw [hl] at hq
        obtain ⟨g, cap, hv⟩ : ∃ g cap, p.V (dn * 64 + k) = .slice (some ⟨g, 0, none⟩) (x :: l).length cap := by
          rcases own_form hq with ⟨_, e⟩ | e
          · cases e
          · exact e
        rw [hv] at hq cq
        obtain ⟨_, hlc, hcm, cur, hr, hs, hx⟩ := own_cells hq
        have cx : wr.cell? ⟨g, 0, none⟩ = some (.int .i64 x) := by rw [hr.cell]; exact hx 0 x rfl
        have hn : 0 < (x :: l).length := by simp
        clear hI hq hv HE hr hs hx ht hl hxp hlc hcm
        generalize (x :: l).length = n at *
        have t1 : decide (0 < n) = true := by simpa using hn
        have i3 : (0 : Int) < (n : Int) := by omega
        go_wp2_with fail
        go_quiet (fail)
        go_wp2_with fail
        go_ret
        rw [HR]
        exact ⟨rfl, by first | exact fk.drew | exact fk.trans (fr_drewN _ _) | exact fk⟩

end Go.Proofs.Ytipfgenbfnkpfaa
