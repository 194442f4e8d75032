/-
  Drop, Tick of package vcpu over the translation. No statement is proved here.
-/
import Derived.Test.YthkieoedidpkaaaVcNew
namespace Go.Proofs.Ythkieoedidpkaaa
open Go.RowKit Go.Maps Go.WideMaps

theorem flt_len {L : List Vc} (g : L.Pairwise (fun a b => a.id ≠ b.id)) {id : Int} {x : Vc} (hx : fnd L id = some x) : (L.filter (fun y => !(y.id == id))).length + 1 = L.length := by
  induction L with
  | nil => cases hx
  | cons a L ih =>
    rw [List.pairwise_cons] at g
    rw [List.filter_cons]
    unfold fnd at hx
    by_cases e : a.id = id
    · rw [if_neg (by simp [e])]
      have : L.filter (fun y => !(y.id == id)) = L := List.filter_eq_self.2 fun y hy => by
        have : y.id ≠ id := fun h' => g.1 y hy (by rw [e, h'])
        simpa using this
      rw [this]; simp
    · rw [if_pos (by simp [e])]
      rw [if_neg e] at hx
      have := ih g.2 hx
      simp only [List.length_cons]
      omega
theorem mem_flt {L : List Vc} {id : Int} {x : Vc} (h : x ∈ L.filter (fun y => !(y.id == id))) : x ∈ L ∧ x.id ≠ id := by
  have := List.mem_filter.1 h
  exact ⟨this.1, by simpa using this.2⟩
/-- What Drop leaves, of one that is not loaded. -/
theorem IsP.dropped {w w3 : World} {p : Pp} {S : Vp} (h : IsP w p S) {id : Int} (hl : S.ld ≠ id) (hh : hasB S id = true) {n : Nat} (hn : n = (S.L.filter (fun y => !(y.id == id))).length)
    (hm : MP w3 p.m n (fun j => if j = id then none else (fnd S.L j).map fun _ => p.B j)) (f3 : Fr (at' p.m) w w3) : ChP w p S w3 p (drpS S id) := by
  have hg := good_drp h.good id
  have hS : drpS S id = { S with L := S.L.filter (fun x => !(x.id == id)) } := by
    unfold drpS
    rw [if_pos hh, if_neg hl]
  rw [hS] at hg ⊢
  have hbk : bkF { S with L := S.L.filter (fun x => !(x.id == id)) } = bkF S := by
    unfold bkF
    show (match fnd (S.L.filter (fun x => !(x.id == id))) S.ld with | some x => x.sy | none => fun _ => 0) = _
    rw [fnd_filter, if_neg hl]
    rfl
  refine ⟨⟨?_, ?_, fun x hx => ?_, fun x hx y hy => h.ij x (mem_flt hx).1 y (mem_flt hy).1, fun x hx y hy => h.kk x (mem_flt hx).1 y (mem_flt hy).1, fun x hx => h.km x (mem_flt hx).1, hg⟩, f3.mono fun j _ e => Or.inr (Or.inl e), fun j hj => Or.inl ?_, rfl⟩
  · rw [hbk]
    exact h.row.keep f3 (fun e => h.mne.1 (by have e : p.b = p.m := e; exact e.symm))
  · show MP w3 p.m (S.L.filter (fun x => !(x.id == id))).length _
    rw [← hn]
    have e : (fun j => (fnd (S.L.filter (fun x => !(x.id == id))) j).map fun _ => p.B j) = fun j => if j = id then none else (fnd S.L j).map fun _ => p.B j := by
      funext j
      rw [fnd_filter]
      by_cases e : j = id
      · rw [if_pos e, if_pos e]; rfl
      · rw [if_neg e, if_neg e]
    rw [e]
    exact hm
  · exact (h.ea x (mem_flt hx).1).keep f3 (fun e => h.mne.2 x (mem_flt hx).1 (by have e : p.B x.id = p.m := e; exact e.symm)) (fun j hj e => by have e : j = p.m := e; subst e; exact h.km x (mem_flt hx).1 hj)
  · rcases hj with rfl | rfl | ⟨x, hx, hj⟩
    · exact Or.inl rfl
    · exact Or.inr (Or.inl rfl)
    · exact Or.inr (Or.inr ⟨x, (mem_flt hx).1, hj⟩)
theorem drp_lea {S : Vp} {id : Int} (hh : hasB S id = true) (hl : S.ld = id) : drpS (leaS S) id = drpS S id := by
  have h2 : hasB (leaS S) id = true := hh
  unfold drpS
  rw [if_pos hh, if_pos h2, if_pos hl]
  show (⟨_, (if (-1 : Int) = id then -1 else -1), _⟩ : Vp) = _
  have : (if (-1 : Int) = id then (-1 : Int) else -1) = -1 := by split <;> rfl
  rw [this]
  rfl
/-- The map's deletion: what a walk asks for. -/
theorem IsP.del {w : World} {p : Pp} {S : Vp} (h : IsP w p S) {id : Int} (hl : S.ld ≠ id) (hh : hasB S id = true) (hi : I64 id) :
    ∃ w2, (∀ ty, (Builtin.delete_ #[49, 3] ty #[.map (some p.m), .int .i64 id]).run Try.prog w = .ok (.tuple #[]) w2) ∧ ChP w p S w2 p (drpS S id) := by
  obtain ⟨x, hx⟩ := has_iff.1 hh
  have hm := h.mp
  rw [← flt_len h.good.one hx] at hm
  obtain ⟨w2, hrun, hm2, f2⟩ := hm.drop hi (y := p.B id) (by show (fnd S.L id).map _ = _; rw [hx]; rfl) (f' := fun j => if j = id then none else (fnd S.L j).map fun _ => p.B j) (fun _ => rfl)
  exact ⟨w2, hrun, h.dropped hl hh rfl hm2 f2⟩
set_option maxRecDepth 100000 in
set_option maxHeartbeats 4000000 in
theorem drop_any (w : World) (p : Pp) (S : Vp) (h : IsP w p S) (id : Int) (hi : I64 id) : Calls Try.prog 22 #[pv p.b, .int .i64 id] w fun e w' => e = .returned (.int .i64 (drpE S id)) ∧ ChP w p S w' p (drpS S id) := by
  obtain ⟨_, c1, c10⟩ := h.st
  have X := has_any' w p S h id hi
  have HC : Hid (ChP w p S w p S) := ChP.same h (Fr.refl _ _)
  cases e : hasB S id with
  | false =>
    have HE : Hid (drpE S id = 181 ∧ drpS S id = S) := by
      refine ⟨?_, ?_⟩
      · unfold drpE; rw [e]; rfl
      · unfold drpS; rw [e]; rfl
    rw [e] at X
    clear h hi e
    go_enter Try.func22, Try.ntmps22
    go_wp2_with fail
    refine X.mono ?_
    rintro e w1 ⟨rfl, rfl⟩
    go_wp2_with fail
    go_ret
    rw [HE.out.1, HE.out.2]
    exact ⟨rfl, HC.out⟩
  | true =>
    have HE : Hid (drpE S id = 0) := by show drpE S id = 0; unfold drpE; rw [e]; rfl
    rw [e] at X
    by_cases hl : S.ld = id
    · have d1 : (id == S.ld) = true := by simpa using hl.symm
      have Y := leave_any w p S h
      have h0 : id ≠ -1 := by
        obtain ⟨x, hx⟩ := has_iff.1 e
        have := h.good.pos hx
        omega
      have HX : Hid (hasB S id = true ∧ S.ld = id ∧ I64 id ∧ -1 ≠ id) := ⟨e, hl, hi, fun e => h0 e.symm⟩
      clear h hi e hl h0
      go_enter Try.func22, Try.ntmps22
      go_wp2_with fail
      refine X.mono ?_
      rintro e w1 ⟨rfl, rfl⟩
      clear X
      go_wp2_with fail
      refine Y.mono ?_
      clear Y
      rintro e w2 ⟨v, rfl, C2⟩
      obtain ⟨_, k1, _⟩ := C2.is.st
      obtain ⟨w3, hrun, C3⟩ := C2.is.del (S := leaS S) HX.out.2.2.2 (show hasB (leaS S) id = true from HX.out.1) HX.out.2.2.1
      have hr := hrun 0
      have HD : Hid (ChP w1 p S w3 p (drpS S id)) := by
        rw [← drp_lea HX.out.1 HX.out.2.1]
        exact C2.trans C3
      clear C2 C3 c1 c10
      go_wp2_with fail
      go_ret
      rw [HE.out]
      exact ⟨rfl, HD.out⟩
    · have d1 : (id == S.ld) = false := by
        have : id ≠ S.ld := fun e => hl e.symm
        simpa using this
      obtain ⟨w3, hrun, C3⟩ := h.del hl e hi
      have hr := hrun 0
      have HD : Hid (ChP w p S w3 p (drpS S id)) := C3
      clear h hi e hl C3
      go_enter Try.func22, Try.ntmps22
      go_wp2_with fail
      refine X.mono ?_
      rintro e w1 ⟨rfl, rfl⟩
      clear X
      go_wp2_with fail
      go_ret
      rw [HE.out]
      exact ⟨rfl, HD.out⟩

end Go.Proofs.Ythkieoedidpkaaa
