/-
  Contracts of package vgic's Next and Ack over the translation. No statement is proved here.
-/
import Derived.Test.YthkieoedidpkaaaVgVal
import Derived.Deep.RegionHeld3
namespace Go.Proofs.Ythkieoedidpkaaa
open Go.RowKit Go.Maps Go.WideMaps

theorem GM.look_any {w : World} {b : Nat} {f : Nat → Option (Int × Bool)} (h : GM w b f) {k : Nat} (hk : k < 64) : ∃ p l o, (Instr.lookup 82 (.map (some b)) (.int .i64 (k : Int)) true).run Try.prog w = .ok (.tuple #[.agg #[.int .i64 p, .bool l], .bool o]) w ∧ o = (f k).isSome ∧ (∀ q, f k = some q → p = q.1 ∧ l = q.2) := by
  refine ⟨_, _, _, h.look hk, rfl, fun q hq => ?_⟩
  rw [hq]
  exact ⟨rfl, rfl⟩

theorem min_is (a b : Int) : (if b < a then b else a) = min a b := by split <;> omega

def nId (o : Option Nat) : Int := ((o.getD 0 : Nat) : Int)

set_option maxRecDepth 100000 in
set_option maxHeartbeats 4000000 in
theorem next_any (w : World) (B : Bk) (S : Vg) (h : IsVg w B S) :
    Calls Try.prog 54 #[.pointer (some ⟨B.b, 0, none⟩)] w fun e w' => e = .returned (.tuple #[.int .i64 (nId (nextO S)), .bool (nextO S).isSome]) ∧ Fr none' w w' := by
  obtain ⟨c0, c1, c2, c3⟩ := h.cells
  have c1' : w.drew.cell? ⟨B.b, 1, none⟩ = some (.int .i64 S.mask) := c1
  have hd : IsVg w.drew B S := h.keep0 (Fr.refl none' w).drew
  go_enter Try.func54, Try.ntmps54
  go_wp2_with fail
  go_region_with (first | (go_at_call 62; refine (running_any _ B S hd).mono ?_; rintro e w1 ⟨rfl, f1⟩; (replace f1 := f1.undrew); (have hk1 := h.keep0 f1); (obtain ⟨d0, d1, d2, d3⟩ := hk1.cells)))
  all_goals
    simp only [min_is]
    obtain ⟨bd, hbd⟩ : ∃ bd, bd = min S.mask (run S) := ⟨_, rfl⟩
    rw [← hbd]
    clear h hd c0 c1 c2 c3 c1' d0 d1 d2 d3
    go_wp2_with fail
    go_loopw [2, 3, 4, 17] (fun id ok b i wr => ∃ k : Nat, k ≤ 64 ∧ id = .int .i64 (nId (best S bd k).1) ∧ ok = .bool (best S bd k).1.isSome ∧ b = .int .i64 (best S bd k).2 ∧ i = .int .i64 k ∧ Fr none' w wr ∧ IsVg wr B S) (fun _ _ _ i _ => 64 - (intOf i).toNat)
    case atStart => exact ⟨0, by omega, rfl, rfl, by rw [hbd]; rfl, rfl, f1, hk1⟩
    case round =>
      clear f1 hk1
      obtain ⟨k, hk, rfl, rfl, rfl, rfl, fk, hT⟩ := hrel
      by_cases hlt : k < 64
      · obtain ⟨c0, c1, c2, c3⟩ := hT.cells
        obtain ⟨p, l, o, hL, ho, hpl⟩ := hT.pe.look_any hlt
        have fa := (Fr.refl none' wr).alloc (.cells #[.int .i64 p, .bool l] 81)
        have h1 := hT.keep0 fa
        obtain ⟨d0, d1, d2, d3⟩ := h1.cells
        obtain ⟨p', l', o', hL', ho', _⟩ := h1.ac.look_any hlt
        have fb := (Fr.refl none' (wr.alloc (.cells #[.int .i64 p, .bool l] 81))).alloc (.cells #[.int .i64 p', .bool l'] 81)
        have h2 := h1.keep0 fb
        have e1 := h2.offs k hlt
        have rp := ((row_alloc wr #[.int .i64 p, .bool l] 81).keep fb (fun h => h)).cell 0
        have i1 : 0 ≤ (k : Int) ∧ (k : Int) < 64 := by omega
        have HF : Hid (Fr none' w ((wr.alloc (.cells #[.int .i64 p, .bool l] 81)).alloc (.cells #[.int .i64 p', .bool l'] 81)) ∧ IsVg ((wr.alloc (.cells #[.int .i64 p, .bool l] 81)).alloc (.cells #[.int .i64 p', .bool l'] 81)) B S) := ⟨(fk.trans fa).trans fb, h2⟩
        have HS : Hid (best S bd (k + 1) = match cand S k with
          | some p => if p < (best S bd k).2 then (some k, p) else best S bd k
          | none => best S bd k) := rfl
        obtain ⟨⟨id, b⟩, hb⟩ : ∃ q, best S bd k = q := ⟨_, rfl⟩
        have HB : Hid (best S bd k = (id, b)) := hb
        obtain ⟨ni, hni⟩ : ∃ ni, ni = nId (best S bd k).1 := ⟨_, rfl⟩
        obtain ⟨oi, hoi⟩ : ∃ oi, oi = (best S bd k).1.isSome := ⟨_, rfl⟩
        rw [← hni, ← hoi]
        rw [hb]
        show Code.wp Try.prog _ _ _ _
        have HC : Hid ((o = true ∧ o' = false ∧ S.off k = false → cand S k = some p) ∧ (¬ (o = true ∧ o' = false ∧ S.off k = false) → cand S k = none)) := ⟨fun ⟨a1, a2, a3⟩ => by
          cases hq : S.pe k with
          | none => rw [ho, hq] at a1; cases a1
          | some q =>
            cases hq' : S.ac k with
            | some q' => rw [ho', hq'] at a2; cases a2
            | none => exact cand_is.mpr ⟨⟨l, by rw [hq, (hpl q hq).1, (hpl q hq).2]⟩, hq', a3⟩, fun hn => by
          cases hq : cand S k with
          | none => rfl
          | some q =>
            obtain ⟨⟨m, a1⟩, a2, a3⟩ := cand_is.mp hq
            exact (hn ⟨by rw [ho, a1]; rfl, by rw [ho', a2]; rfl, a3⟩).elim⟩
        have HK : Hid (nId (best S bd k).1 = ni ∧ (best S bd k).1.isSome = oi) := ⟨hni.symm, hoi.symm⟩
        obtain ⟨of, hof⟩ : ∃ of, of = S.off k := ⟨_, rfl⟩
        rw [← hof] at e1
        have HO : Hid (of = S.off k) := hof
        clear hof hni hoi hb hpl ho ho' hT h1 h2 fa fb fk
        by_cases hall : o = true ∧ o' = false ∧ of = false ∧ p < b
        · obtain ⟨rfl, rfl, rfl, hpb⟩ := hall
          have u1 : decide (p < b) = true := decide_eq_true hpb
          have HQ : Hid (best S bd (k + 1) = (some k, p)) := by
            show _ = _
            rw [HS.out, HC.out.1 ⟨rfl, rfl, HO.out.symm⟩, HB.out]
            simp only
            rw [if_pos hpb]
          go_wp2_with fail
          go_quiet (fail)
          go_wp2_with fail
          go_roundw
          case rel => exact ⟨k + 1, by omega, by rw [HQ.out]; rfl, by rw [HQ.out]; rfl, by rw [HQ.out], by go_num, HF.out.1.trans (fr_drewN _ _), HF.out.2.keep0 (fr_drewN _ _)⟩
          case measure => simp [intOf]; omega
        · have HQ : Hid (best S bd (k + 1) = (id, b)) := by
            show _ = _
            rw [HS.out]
            by_cases hc : o = true ∧ o' = false ∧ of = false
            · rw [HC.out.1 ⟨hc.1, hc.2.1, by rw [← HO.out]; exact hc.2.2⟩, HB.out]
              simp only
              rw [if_neg (fun h => hall ⟨hc.1, hc.2.1, hc.2.2, h⟩)]
            · rw [HC.out.2 (fun h => hc ⟨h.1, h.2.1, by rw [HO.out]; exact h.2.2⟩), HB.out]
          have hcases : o = false ∨ (o = true ∧ o' = true) ∨ (o = true ∧ o' = false ∧ of = true) ∨ (o = true ∧ o' = false ∧ of = false ∧ decide (p < b) = false) := by
            cases o <;> cases o' <;> cases of <;> simp at hall ⊢ <;> exact hall
          have HKK := HK.out
          rw [HB.out] at HKK
          have HK2 : Hid (nId id = ni ∧ id.isSome = oi) := HKK
          clear HKK hall
          rcases hcases with rfl | ⟨rfl, rfl⟩ | ⟨rfl, rfl, rfl⟩ | ⟨rfl, rfl, rfl, u1⟩
          all_goals
            go_wp2_with fail
            go_roundw
            case rel => exact ⟨k + 1, by omega, by rw [HQ.out, HK2.out.1], by rw [HQ.out, HK2.out.2], by rw [HQ.out], by go_num, HF.out.1, HF.out.2⟩
            case measure => simp [intOf]; omega
      · obtain rfl : k = 64 := by omega
        have HN : Hid (nextO S = (best S bd 64).1) := by show _ = _; rw [hbd]; rfl
        go_wp2_with fail
        go_ret2
        exact ⟨by rw [HN.out]; rfl, fk⟩

set_option maxRecDepth 100000 in
set_option maxHeartbeats 1000000 in
theorem ack_any (w : World) (B : Bk) (S : Vg) (h : IsVg w B S) :
    Calls Try.prog 36 #[.pointer (some ⟨B.b, 0, none⟩)] w fun e w' => e = .returned (.int .i64 (ackA S)) ∧ Chg w B (ackS S) w' := by
  have hn := next_any w B S h
  unfold ackA ackS
  cases ho : nextO S with
  | none =>
    rw [ho] at hn
    replace hn : Calls Try.prog 54 #[.pointer (some ⟨B.b, 0, none⟩)] w fun e w' => e = .returned (.tuple #[.int .i64 0, .bool false]) ∧ Fr none' w w' := hn
    go_enter Try.func36, Try.ntmps36
    go_wp2_with fail
    refine hn.mono ?_
    rintro e w1 ⟨rfl, f1⟩
    go_wp2_with fail
    go_ret
    exact ⟨rfl, Chg.same h f1⟩
  | some k =>
    have hk := next_lt ho
    obtain ⟨p, l, hp, hac, _⟩ := next_some ho
    rw [ho] at hn
    replace hn : Calls Try.prog 54 #[.pointer (some ⟨B.b, 0, none⟩)] w fun e w' => e = .returned (.tuple #[.int .i64 (k : Int), .bool true]) ∧ Fr none' w w' := hn
    clear ho
    simp only [hp]
    unfold inc
    go_enter Try.func36, Try.ntmps36
    go_wp2_with fail
    refine hn.mono ?_
    rintro e w1 ⟨rfl, f1⟩
    have h1 : IsVg w1.drew B S := (h.keep0 f1).keep0 (Fr.refl none' w1).drew
    obtain ⟨c0, c1, c2, c3⟩ := h1.cells
    have hL := h1.pe.look0_some hk hp
    obtain ⟨w2, hst, hm, f2⟩ := h1.ac.store hk p l
    have h2 := h1.setAc hm f2 (goodF_set h1.good.ac _ _ (fun q l' e => by cases e; exact h1.good.pe k p l hp))
    obtain ⟨d0, d1, d2, d3⟩ := h2.cells
    obtain ⟨w3, hdr, hm3, f3⟩ := h2.pe.drop hk
    have h3 := h2.setPe hm3 f3 (goodF_set h2.good.pe _ _ (fun q l' e => by cases e))
    obtain ⟨e0, e1, e2⟩ := h3.counts
    have g0 := h3.frozen 69
    have HI : Hid (Chg w B { S with pe := set1 S.pe k none, ac := set1 S.ac k (some (p, l)), ack := wrap64 (S.ack + 1) } (w3.setCell ⟨B.b, 69, none⟩ (.int .i64 (wrap64 (S.ack + 1))))) :=
      ⟨fr_b 69 _ ((((f1.drew).mono (fun _ _ h => h.elim)).trans (f2.mono (fun _ _ e => Or.inr (Or.inr e)))).trans (f3.mono (fun _ _ e => Or.inr (Or.inl e)))), h3.setAck _⟩
    clear hn h h1 h2 h3 f1 f2 f3 hm hm3 hp hac
    go_wp2_with fail
    go_region
    all_goals
      go_wp2_with fail
      go_ret
      exact ⟨rfl, HI.out⟩

end Go.Proofs.Ythkieoedidpkaaa
