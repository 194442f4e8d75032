/-
  The document's Add over the translation. No statement is proved here.
-/
import Derived.Test.YthkieoedidpkaaaVcRefC
namespace Go.Proofs.Ythkieoedidpkaaa
open Go.RowKit Go.Maps Go.WideMaps

/-- What a walk over Add's append asks for. -/
theorem IsD.addL {w : World} {q : Qd} {S : Vp} (h : IsD w q S) {id : Int} (he : addE S id = 0) {b : Nat} (hb : IsRv w b (zeroV S.lrs)) (hbq : ¬ q.s b) :
    ∃ aL nL cL va vn vc w1 q', q.L = .slice aL nL cL ∧ (Builtin.append_ #[52, 52] 52 #[.slice aL nL cL, .slice (some ⟨w.heap.size, 0, none⟩) 1 1]).run Try.prog (w.alloc (.cells (encO (newVc id S.lrs, b)).toArray 62)) = .ok (.slice va vn vc) w1 ∧
      w1.cell? ⟨q.b, 0, none⟩ = some q.L ∧ w1.frozen? ⟨q.b, 0, none⟩ = false ∧ q'.b = q.b ∧ IsD (w1.setCell ⟨q.b, 0, none⟩ (.slice va vn vc)) q' (addS S id) ∧ Fr q.s w (w1.setCell ⟨q.b, 0, none⟩ (.slice va vn vc)) ∧ ∀ k, q'.s k → q.s k ∨ k = b ∨ w.heap.size ≤ k := by
  have hg := good_add h.good id
  have hS : addS S id = { S with L := S.L ++ [newVc id S.lrs] } := by unfold addS; rw [if_pos he]
  rw [hS] at hg ⊢
  have hlen := h.dlen
  obtain ⟨aL, cL, hv, _⟩ := h.fl.form encO_len
  obtain ⟨v1, w1, r1, f1, o1, n1⟩ := FL.app (T := 52) Try.underlying52 info_one rfl (by omega) (by omega) encO_len encO_one h.fl (by omega) (Nat.zero_le _) (newVc id S.lrs, b)
  obtain ⟨va, vc, hv1, _⟩ := o1.form encO_len
  subst hv1
  have hnb : some q.b ≠ q.L.ownBlock := fun e => by
    obtain ⟨_, _, cur, r⟩ := h.fl.blk e
    exact absurd (row_ty h.row r) (by decide)
  have rb1 : Row w1 q.b #[q.L, .int .i64 S.lrs, .int .i64 S.ld] 54 := h.row.keep f1 (fun e => hnb e)
  have hrv : ∀ z : Nat, ∀ V : Vg, IsRv w z V → IsRv w1 z V := fun z V hz => hz.keep f1 (fun e => by
    obtain ⟨cs, rz⟩ := rv_row hz
    obtain ⟨_, _, cur, r⟩ := h.fl.blk (show some z = q.L.ownBlock from e)
    exact absurd (row_ty rz r) (by decide))
  have fr := fr_set w1 q.b 0 (.slice va (q.D ++ [(newVc id S.lrs, b)]).length vc) (Fr.refl (at' q.b) w1)
  have hrv2 : ∀ z : Nat, ∀ V : Vg, IsRv w z V → IsRv (w1.setCell ⟨q.b, 0, none⟩ (.slice va (q.D ++ [(newVc id S.lrs, b)]).length vc)) z V := fun z V hz => (hrv z V hz).keep fr (fun e => by
    obtain ⟨cs, rz⟩ := rv_row hz
    have e : z = q.b := e
    rw [e] at rz
    exact absurd (row_ty rz h.row) (by decide))
  refine ⟨aL, q.D.length, cL, va, _, vc, w1, ⟨q.b, .slice va (q.D ++ [(newVc id S.lrs, b)]).length vc, q.D ++ [(newVc id S.lrs, b)]⟩, hv, by rw [← hv]; exact r1, rb1.cell 0, rb1.frozen 0, rfl, ⟨rb1.setCell 0 _, fl_set o1 rb1 (by decide), ?_, fun z hz => ?_, ?_, hg⟩, (f1.mono (fun k _ e => Or.inr (Or.inl e))).trans (fr.mono (fun k _ e => Or.inl e)), fun k hk => ?_⟩
  · show S.L ++ [newVc id S.lrs] = (q.D ++ [(newVc id S.lrs, b)]).map (·.1)
    rw [h.eq, List.map_append]
    rfl
  · rcases List.mem_append.1 hz with hz | hz
    · exact hrv2 _ _ (h.vs z hz)
    · have e : z = (newVc id S.lrs, b) := by simpa using hz
      rw [e]
      exact hrv2 b _ hb
  · refine List.pairwise_append.2 ⟨h.ne, List.pairwise_singleton _ _, fun x hx z hz => ?_⟩
    have e : z = (newVc id S.lrs, b) := by simpa using hz
    rw [e]
    intro e2
    exact hbq (Or.inr (Or.inr ⟨x, hx, e2.symm⟩))
  · rcases hk with hk | hk | ⟨z, hz, e⟩
    · exact Or.inl (Or.inl hk)
    · rcases n1 k hk with h' | h'
      · exact Or.inl (Or.inr (Or.inl h'))
      · exact Or.inr (Or.inr h')
    · rcases List.mem_append.1 hz with hz | hz
      · exact Or.inl (Or.inr (Or.inr ⟨z, hz, e⟩))
      · have e3 : z = (newVc id S.lrs, b) := by simpa using hz
        rw [e3] at e
        exact Or.inr (Or.inl e)
set_option maxRecDepth 100000 in
set_option maxHeartbeats 4000000 in
theorem dadd_any (w : World) (q : Qd) (S : Vp) (h : IsD w q S) (id : Int) : Calls Try.prog 21 #[pv q.b, .int .i64 id] w fun e w' => ∃ q', e = .returned (.int .i64 (addE S id)) ∧ ChD w q w' q' (addS S id) := by
  have X := dat_any w q S h id
  have HC : Hid (ChD w q w q S) := ChD.same h (Fr.refl _ _)
  cases hr : rgB id 0 1023 with
  | false =>
    have HR : Hid (rgB id 0 1023 = false) := hr
    have HE : Hid (addE S id = 1 ∧ addS S id = S) := by
      have h1 : addE S id = 1 := by unfold addE; rw [hr]; rfl
      exact ⟨h1, by unfold addS; rw [h1]; rfl⟩
    clear h hr
    go_enter Try.func21, Try.ntmps21
    go_wp2_with (go_at_call 50; refine (dis_any _ _).mono ?_; rintro e w2 ⟨rfl, rfl⟩; rw [HR.out])
    refine X.mono ?_
    clear X
    rintro e w1 ⟨rfl, i, rfl, _⟩
    go_wp2_with fail
    go_ret
    rw [HE.out.1, HE.out.2]
    exact ⟨_, rfl, HC.out⟩
  | true =>
    have HR : Hid (rgB id 0 1023 = true) := hr
    have HD : Hid (IsD w q S) := h
    have c1 : w.cell? ⟨q.b, 1, none⟩ = some (.int .i64 S.lrs) := h.row.cell 1
    have Y := fun W => rnew_ok W S.lrs (isR_of h.good.lrs)
    clear h
    go_enter Try.func21, Try.ntmps21
    go_wp2_with (go_at_call 50; refine (dis_any _ _).mono ?_; rintro e w2 ⟨rfl, rfl⟩; rw [HR.out])
    refine X.mono ?_
    clear X
    rintro e w1 ⟨rfl, i, rfl, hp⟩
    rcases hp with ⟨hn, rfl⟩ | ⟨j, y, hj, hid, hf, rfl⟩
    · have h1 : addE S id = 0 := by
        unfold addE
        rw [hr, show hasB S id = false by unfold hasB; rw [hn]; rfl]
        rfl
      have HE : Hid (addE S id = 0) := h1
      have hcv : IntKind.u32.wrap id = id := by
        have := rg_iff.1 hr
        simp only [IntKind.wrap, IntKind.bits, IntKind.signed]
        first | omega | (simp; omega)
      have Y := Y w1
      clear hn h1 hr
      go_wp2_with fail
      refine Y.mono ?_
      clear Y
      rintro e w2 ⟨b, rfl, hb0, f1, hb⟩
      have c1' : w2.cell? ⟨q.b, 0, none⟩ = some q.L := (HD.out.keep0 f1).row.cell 0
      have HB : Hid (w1.heap.size ≤ b ∧ Fr none' w1 w2 ∧ IsRv w2 b (zeroV S.lrs)) := ⟨hb0, f1, hb⟩
      clear hb0 f1 hb
      have r9 := row_alloc w2 (encO (newVc id S.lrs, b)).toArray 62
      have hW : IsD (w2.alloc (.cells (encO (newVc id S.lrs, b)).toArray 62)) q S := (HD.out.keep0 HB.out.2.1).keep0 ((Fr.refl none' w2).alloc _)
      have hbW : IsRv (w2.alloc (.cells (encO (newVc id S.lrs, b)).toArray 62)) b (zeroV S.lrs) := HB.out.2.2.keep0 ((Fr.refl none' w2).alloc _)
      have fW : Fr none' w1 (w2.alloc (.cells (encO (newVc id S.lrs, b)).toArray 62)) := HB.out.2.1.alloc _
      rw [show (encO (newVc id S.lrs, b)).toArray = #[.int .i64 id, .int .i64 (-1), .int .u32 0, .int .u32 0, .int .u32 0, .int .u32 0, .int .u32 0, .int .u32 0, .int .u32 id, .int .u32 0, pv b] from rfl] at r9 hW hbW fW
      clear c1 c1'
      go_wp2_with fail
      generalize (w2.alloc (.cells #[.int .i64 id, .int .i64 (-1), .int .u32 0, .int .u32 0, .int .u32 0, .int .u32 0, .int .u32 0, .int .u32 0, .int .u32 id, .int .u32 0, pv b] 62)) = W at *
      generalize w2.heap.size = g at *
      have fd := (Fr.refl none' W).drew
      obtain ⟨aL, nL, cL, va, vn, vc, w4, q4, hv, hrun, e1, z1, eb, D4, F4, n4⟩ := (hW.keep0 fd).addL HE.out (hbW.keep0 fd) (fun h => by have := HD.out.lt b h; have := HB.out.1; omega)
      have ra : W.cell? ⟨q.b, 0, none⟩ = some q.L := hW.row.cell 0
      have ra2 : (W.alloc (.cells (encO (newVc id S.lrs, b)).toArray 62)).cell? ⟨q.b, 0, none⟩ = some q.L := (hW.keep0 ((Fr.refl none' W).alloc _)).row.cell 0
      rw [hv] at ra ra2 e1
      have HZ : Hid (ChD w1 q (w4.setCell ⟨q.b, 0, none⟩ (.slice va vn vc)) q4 (addS S id)) :=
        ⟨D4, (fW.mono (fun _ _ h => h.elim)).trans ((fd.mono (fun _ _ h => h.elim)).trans F4), fun k hk => by
          rcases n4 k hk with h' | h' | h'
          · exact Or.inl h'
          · exact Or.inr (by rw [h']; exact HB.out.1)
          · have := fW.size
            exact Or.inr (Nat.le_trans this h'), eb⟩
      have hrun' : (Builtin.append_ #[52, 52] 52 #[.slice aL nL cL, .slice (some ⟨W.heap.size, 0, none⟩) 1 1]).run Try.prog ((W.alloc (.cells (encO (newVc id S.lrs, b)).toArray 62)).drew) = .ok (.slice va vn vc) w4 := hrun
      rw [show (encO (newVc id S.lrs, b)).toArray = #[.int .i64 id, .int .i64 (-1), .int .u32 0, .int .u32 0, .int .u32 0, .int .u32 0, .int .u32 0, .int .u32 0, .int .u32 id, .int .u32 0, pv b] from rfl] at hrun' ra2
      have x0 := r9.cell 0
      have x1 := r9.cell 1
      have x2 := r9.cell 2
      have x3 := r9.cell 3
      have x4 := r9.cell 4
      have x5 := r9.cell 5
      have x6 := r9.cell 6
      have x7 := r9.cell 7
      have x8 := r9.cell 8
      have x9 := r9.cell 9
      have x10 := r9.cell 10
      dsimp at x0 x1 x2 x3 x4 x5 x6 x7 x8 x9 x10
      clear fd hrun hW hbW fW D4 F4 n4 r9 hv eb HB HD HC
      go_region_law (refine step_append_eq hrun' (by with_reducible rfl) (.tmp 38) (.tmp 40) rfl rfl rfl rfl rfl ?_)
      all_goals go_wp2_with fail
      all_goals go_ret
      all_goals rw [HE.out]
      all_goals exact ⟨q4, rfl, HZ.out⟩
    · have h1 : addE S id = 130 := by
        unfold addE
        rw [hr, show hasB S id = true from has_iff.2 ⟨_, hf⟩]
        rfl
      have HE : Hid (addE S id = 130 ∧ addS S id = S) := ⟨h1, by unfold addS; rw [h1]; rfl⟩
      have j0 : decide (0 ≤ (j : Int)) = true := decide_eq_true (by omega)
      clear hj hid hf h1 hr Y
      go_wp2_with fail
      go_ret
      rw [HE.out.1, HE.out.2]
      exact ⟨_, rfl, HC.out⟩

end Go.Proofs.Ythkieoedidpkaaa
