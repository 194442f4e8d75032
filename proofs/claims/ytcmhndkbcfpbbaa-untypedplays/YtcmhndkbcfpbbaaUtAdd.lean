/-
  Contracts of package untyped's Add, isSize, Size, above, Room and Carve over the translation. No statement is proved here.
-/
import Derived.Test.YtcmhndkbcfpbbaaUtVal
namespace Go.Proofs.Ytcmhndkbcfpbbaa
open Go.RowKit Go.Maps Go.WideMaps

set_option maxRecDepth 100000 in
set_option maxHeartbeats 1000000 in
theorem add_any (w : World) (p : Pb) (L : List Rg) (h : IsP w p L) (x : Rg) (hx : I64 x.f) : Calls Try.prog 20 #[.pointer (some ⟨p.b, 0, none⟩), rgV x] w fun e w' => e = .returned (.int .i64 (addE L x)) ∧ Chg w p L w' (addS L x) := by
  have f0 := (Fr.refl none' w).alloc (.cells (rgA x) 39)
  have r0 : RgR (w.alloc (.cells (rgA x) 39)) w.heap.size x := row_alloc w (rgA x) 39
  have R := fun W => maybe_any x hx W
  have h0 := h.keep0 f0
  cases hr : okR x with
  | false =>
    have e1 : addE L x = 1 := by unfold addE; rw [hr]; rfl
    have e2 : addS L x = L := by unfold addS; rw [e1]; rfl
    rw [e1, e2]
    rw [hr] at R
    have HC : Hid (∀ w', Fr none' (w.alloc (.cells (rgA x) 39)) w' → Chg w p L w' L) := fun w' f => Chg.same h (f0.trans f)
    clear h h0 f0 r0 e1 e2 hr hx
    obtain ⟨a1, a2, a3, a4⟩ := x
    dsimp only [rgA] at *
    go_enter Try.func20, Try.ntmps20
    go_wp2_with (go_at_call 39; refine (R _).mono ?_; rintro e w1 ⟨rfl, f1⟩)
    go_ret
    exact ⟨rfl, HC.out _ f1⟩
  | true =>
    rw [hr] at R
    cases hf : fnd L x.f with
    | some y =>
      have e1 : addE L x = 130 := by unfold addE; rw [hr, hf]; rfl
      have e2 : addS L x = L := by unfold addS; rw [e1]; rfl
      rw [e1, e2]
      have HK : Hid (∀ w', Fr none' (w.alloc (.cells (rgA x) 39)) w' → IsP w' p L ∧ RgR w' w.heap.size x ∧ Chg w p L w' L) := fun w' f => ⟨h0.keep0 f, r0.keep f (fun h => h), Chg.same h (f0.trans f)⟩
      clear h h0 f0 r0 e1 e2 hr
      obtain ⟨a1, a2, a3, a4⟩ := x
      dsimp only [rgA] at *
      go_enter Try.func20, Try.ntmps20
      go_wp2_with (go_at_call 39; refine (R _).mono ?_; rintro e w1 ⟨rfl, f1⟩)
      obtain ⟨h1, r1, hc⟩ := HK.out _ f1
      have HC : Hid (Chg w p L w1.drew L) := by obtain ⟨p', q1, q2, q3, q4⟩ := hc; exact ⟨p', q1, q2.keep0 (Fr.refl none' _).drew, q3.drew, q4⟩
      have c0 := h1.cell
      obtain ⟨d0, d1, d2, d3⟩ := r1.cells
      have hL := (h1.keep0 (Fr.refl none' _).drew).map.look_some hx (map_some hf)
      clear h1 r1 hc HK f1 R hx hf
      go_region
      all_goals go_wp2
      all_goals go_ret
      all_goals exact ⟨rfl, HC.out⟩
    | none =>
      have e1 : addE L x = 0 := by unfold addE; rw [hr, hf]; rfl
      have e2 : addS L x = ins x L := by unfold addS; rw [e1]; rfl
      rw [e1, e2]
      have HK : Hid (∀ w', Fr none' (w.alloc (.cells (rgA x) 39)) w' → IsP w' p L ∧ RgR w' w.heap.size x ∧ ∃ w2, (Instr.mapUpdate 64 (.map (some p.m)) (.int .i64 x.f) (pv w.heap.size)).run Try.prog w' = .ok () w2 ∧ Chg w p L w2 (ins x L)) := fun w' f => by
        have h1 := h0.keep0 f
        have r1 := r0.keep f (fun h => h)
        obtain ⟨w2, hrun, hm, f2⟩ := h1.map.store (len_le h.good) hx (map_none hf) w.heap.size (f' := fun j => if x.f = j then some w.heap.size else mapF p L j) (fun _ => rfl)
        exact ⟨h1, r1, w2, hrun, h.add hr hf (Nat.le_refl _) (f0.trans f) r1 f2 hm⟩
      clear h h0 f0 r0 e1 e2 hr
      obtain ⟨a1, a2, a3, a4⟩ := x
      dsimp only [rgA] at *
      go_enter Try.func20, Try.ntmps20
      go_wp2_with (go_at_call 39; refine (R _).mono ?_; rintro e w1 ⟨rfl, f1⟩)
      obtain ⟨h1, r1, _⟩ := HK.out _ f1
      have c0 := h1.cell
      obtain ⟨d0, d1, d2, d3⟩ := r1.cells
      have hL := (h1.keep0 (Fr.refl none' _).drew).map.look_none hx (map_none hf)
      clear h1 r1 R hx hf
      go_region
      all_goals obtain ⟨_, _, w2, hrun, hc⟩ := HK.out w1.drew.drew (f1.drew.drew)
      all_goals have HC : Hid (Chg w p L w2 (ins ⟨a1, a2, a3, a4⟩ L)) := hc
      all_goals clear hc
      all_goals go_wp2
      all_goals try go_region
      all_goals try go_wp2
      all_goals go_ret
      all_goals exact ⟨rfl, HC.out⟩

end Go.Proofs.Ytcmhndkbcfpbbaa
