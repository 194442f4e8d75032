/-
  The small calls of package vcpu over the translation: has, registers, Thread, Loaded, Bank, Read, Write, Inject, Vgic. No statement is proved here.
-/
import Derived.Test.YthkieoedidpkaaaVcRow
import Derived.Test.YthkieoedidpkaaaVgVal
namespace Go.Proofs.Ythkieoedidpkaaa
open Go.RowKit Go.Maps Go.WideMaps

/-! ### cells -/
theorem stC_at (lrs ld : Int) (m : Nat) (bk : Nat → Int) {k : Nat} (hk : k < 8) : (stC lrs ld m bk)[2 + k]? = some (.int .u32 (bk k)) := by
  match k, hk with
  | 0, _ => rfl
  | 1, _ => rfl
  | 2, _ => rfl
  | 3, _ => rfl
  | 4, _ => rfl
  | 5, _ => rfl
  | 6, _ => rfl
  | 7, _ => rfl
theorem prC_at (a : Nat → Int) (kb : Nat) (th : Int) {k : Nat} (hk : k < 8) : (prC a kb th)[k]? = some (.int .u32 (a k)) := by
  match k, hk with
  | 0, _ => rfl
  | 1, _ => rfl
  | 2, _ => rfl
  | 3, _ => rfl
  | 4, _ => rfl
  | 5, _ => rfl
  | 6, _ => rfl
  | 7, _ => rfl
theorem st_bk {lrs ld : Int} {m : Nat} {b1 b2 : Nat → Int} (h : ∀ k, k < 8 → b1 k = b2 k) : stC lrs ld m b1 = stC lrs ld m b2 := by
  unfold stC
  rw [h 0 (by omega), h 1 (by omega), h 2 (by omega), h 3 (by omega), h 4 (by omega), h 5 (by omega), h 6 (by omega), h 7 (by omega)]
theorem pr_a {a1 a2 : Nat → Int} {kb : Nat} {th : Int} (h : ∀ k, k < 8 → a1 k = a2 k) : prC a1 kb th = prC a2 kb th := by
  unfold prC
  rw [h 0 (by omega), h 1 (by omega), h 2 (by omega), h 3 (by omega), h 4 (by omega), h 5 (by omega), h 6 (by omega), h 7 (by omega)]
theorem stC_set (lrs ld : Int) (m : Nat) (bk : Nat → Int) {k : Nat} (hk : k < 8) (v : Int) : (stC lrs ld m bk).setIfInBounds (2 + k) (.int .u32 v) = stC lrs ld m (fun j => if j = k then v else bk j) := by
  match k, hk with
  | 0, _ => rfl
  | 1, _ => rfl
  | 2, _ => rfl
  | 3, _ => rfl
  | 4, _ => rfl
  | 5, _ => rfl
  | 6, _ => rfl
  | 7, _ => rfl
theorem prC_set (a : Nat → Int) (kb : Nat) (th : Int) {k : Nat} (hk : k < 8) (v : Int) : (prC a kb th).setIfInBounds k (.int .u32 v) = prC (fun j => if j = k then v else a j) kb th := by
  match k, hk with
  | 0, _ => rfl
  | 1, _ => rfl
  | 2, _ => rfl
  | 3, _ => rfl
  | 4, _ => rfl
  | 5, _ => rfl
  | 6, _ => rfl
  | 7, _ => rfl
theorem has_iff {S : Vp} {id : Int} : hasB S id = true ↔ ∃ x, fnd S.L id = some x := by unfold hasB; exact Option.isSome_iff_exists
theorem has_no {S : Vp} {id : Int} (h : hasB S id = false) : fnd S.L id = none := by
  unfold hasB at h
  cases e : fnd S.L id with
  | none => rfl
  | some _ => rw [e] at h; cases h
theorem bk_some {S : Vp} {x : Vc} (h : fnd S.L S.ld = some x) : bkF S = x.sy := by unfold bkF; rw [h]
theorem bk_none {S : Vp} (h : fnd S.L S.ld = none) : bkF S = fun _ => 0 := by unfold bkF; rw [h]
theorem bk_upd {L : List Vc} {k ld lrs : Int} {g : Vc → Vc} (hg : ∀ t, (g t).id = t.id) {x : Vc} (hx : fnd L k = some x) : bkF ⟨upd L k g, ld, lrs⟩ = if ld = k then (g x).sy else bkF ⟨L, ld, lrs⟩ := by
  unfold bkF
  show (match fnd (upd L k g) ld with | some x => x.sy | none => fun _ => 0) = _
  rw [fnd_upd1 L k hg]
  by_cases e : ld = k
  · rw [if_pos e, if_pos e, hx]
    rfl
  · rw [if_neg e, if_neg e]
    rfl
section
variable {w : World} {p : Pp} {S : Vp}
theorem IsP.st (h : IsP w p S) : w.cell? ⟨p.b, 0, none⟩ = some (.int .i64 S.lrs) ∧ w.cell? ⟨p.b, 1, none⟩ = some (.map (some p.m)) ∧ w.cell? ⟨p.b, 10, none⟩ = some (.int .i64 S.ld) := ⟨h.row.cell 0, h.row.cell 1, h.row.cell 10⟩
theorem IsP.bk (h : IsP w p S) {k : Nat} (hk : k < 8) : w.cell? ⟨p.b, 2 + k, none⟩ = some (.int .u32 (bkF S k)) := by
  rw [show w.cell? ⟨p.b, 2 + k, none⟩ = (stC S.lrs S.ld p.m (bkF S))[2 + k]? from h.row.cell (2 + k), stC_at _ _ _ _ hk]
/-- What the map tells. -/
theorem IsP.look (h : IsP w p S) {id : Int} (hi : I64 id) : (fnd S.L id = none → (Instr.lookup 49 (.map (some p.m)) (.int .i64 id) true).run Try.prog w = .ok (.tuple #[.pointer none, .bool false]) w) ∧ ∀ x, fnd S.L id = some x → (Instr.lookup 49 (.map (some p.m)) (.int .i64 id) true).run Try.prog w = .ok (.tuple #[pv (p.B id), .bool true]) w ∧ (Instr.lookup 49 (.map (some p.m)) (.int .i64 id) false).run Try.prog w = .ok (pv (p.B id)) w :=
  ⟨fun e => h.mp.look_none hi (by show (fnd S.L id).map _ = none; rw [e]; rfl), fun x e => ⟨h.mp.look_some hi (by show (fnd S.L id).map _ = some _; rw [e]; rfl), h.mp.look0_some hi (by show (fnd S.L id).map _ = some _; rw [e]; rfl)⟩⟩
end

theorem within_v (n a b : Int) (w : World) : Calls Try.prog 20 #[.int .i64 n, .int .i64 a, .int .i64 b] w fun e w' => e = .returned (.bool (rgB n a b)) ∧ w' = w := by
  unfold rgB
  by_cases h1 : a ≤ n
  · by_cases h2 : n ≤ b
    · have d1 : decide (a ≤ n) = true := decide_eq_true h1
      have d2 : decide (n ≤ b) = true := decide_eq_true h2
      go_enter Try.func20, Try.ntmps20
      go_wp2_with fail
      go_ret
      exact ⟨by first | rfl | simp [h1, h2], rfl⟩
    · have d1 : decide (a ≤ n) = true := decide_eq_true h1
      have d2 : decide (n ≤ b) = false := decide_eq_false h2
      go_enter Try.func20, Try.ntmps20
      go_wp2_with fail
      go_ret
      exact ⟨by first | rfl | simp [h1, h2], rfl⟩
  · have d1 : decide (a ≤ n) = false := decide_eq_false h1
    go_enter Try.func20, Try.ntmps20
    go_wp2_with fail
    go_ret
    exact ⟨by first | rfl | simp [h1], rfl⟩
theorem isnum_any (n : Int) (w : World) : Calls Try.prog 46 #[.int .i64 n] w fun e w' => e = .returned (.bool (rgB n 0 1023)) ∧ w' = w := by
  go_enter Try.func46, Try.ntmps46
  go_wp2_with fail
  refine (within_v n 0 1023 w).mono ?_
  rintro e w1 ⟨rfl, rfl⟩
  go_wp2_with fail
  go_ret
  exact ⟨rfl, rfl⟩
theorem has_any' (w : World) (p : Pp) (S : Vp) (h : IsP w p S) (id : Int) (hi : I64 id) : Calls Try.prog 47 #[pv p.b, .int .i64 id] w fun e w' => e = .returned (.bool (hasB S id)) ∧ w' = w := by
  obtain ⟨_, c1, _⟩ := h.st
  obtain ⟨l1, l2⟩ := h.look hi
  unfold hasB
  cases e : fnd S.L id with
  | none =>
    have l := l1 e
    clear l1 l2 h hi e
    go_enter Try.func47, Try.ntmps47
    go_wp2_with fail
    go_ret
    exact ⟨rfl, rfl⟩
  | some x =>
    have l := (l2 x e).1
    clear l1 l2 h hi e
    go_enter Try.func47, Try.ntmps47
    go_wp2_with fail
    go_ret
    exact ⟨rfl, rfl⟩
theorem regs_ld (w : World) (p : Pp) (S : Vp) (h : IsP w p S) : Calls Try.prog 49 #[pv p.b, .int .i64 S.ld] w fun e w' => e = .returned (.pointer (some ⟨p.b, 2, none⟩)) ∧ w' = w := by
  obtain ⟨_, _, c2⟩ := h.st
  clear h
  go_enter Try.func49, Try.ntmps49
  go_wp2_with fail
  go_ret
  exact ⟨rfl, rfl⟩
theorem regs_other (w : World) (p : Pp) (S : Vp) (h : IsP w p S) (id : Int) (hi : I64 id) (hn : id ≠ S.ld) {x : Vc} (hx : fnd S.L id = some x) : Calls Try.prog 49 #[pv p.b, .int .i64 id] w fun e w' => e = .returned (pv (p.B id)) ∧ w' = w := by
  obtain ⟨_, c1, c2⟩ := h.st
  have l := ((h.look hi).2 x hx).2
  have d : (id == S.ld) = false := by simpa using hn
  clear h hx hn hi
  go_enter Try.func49, Try.ntmps49
  go_wp2_with fail
  go_ret
  exact ⟨rfl, rfl⟩
set_option maxRecDepth 100000 in
theorem thread_any (w : World) (p : Pp) (S : Vp) (h : IsP w p S) (id : Int) (hi : I64 id) : Calls Try.prog 41 #[pv p.b, .int .i64 id] w fun e w' => e = .returned (.int .i64 (thrI S id)) ∧ w' = w := by
  obtain ⟨_, c1, _⟩ := h.st
  have X := has_any' w p S h id hi
  unfold hasB at X
  unfold thrI
  cases e : fnd S.L id with
  | none =>
    rw [e] at X
    clear h hi e
    go_enter Try.func41, Try.ntmps41
    go_wp2_with fail
    refine X.mono ?_
    rintro e w1 ⟨rfl, rfl⟩
    go_wp2_with fail
    go_ret
    exact ⟨rfl, rfl⟩
  | some x =>
    rw [e] at X
    have l := ((h.look hi).2 x e).2
    obtain ⟨⟨⟨a, r, _⟩, _⟩, hid, _⟩ := h.has e
    rw [hid] at r
    have c9 : w.cell? ⟨p.B id, 9, none⟩ = some (.int .i64 x.th) := r.cell 9
    clear h hi e r
    go_enter Try.func41, Try.ntmps41
    go_wp2_with fail
    refine X.mono ?_
    rintro e w1 ⟨rfl, rfl⟩
    go_wp2_with fail
    go_ret
    exact ⟨rfl, rfl⟩
theorem loaded_any (w : World) (p : Pp) (S : Vp) (h : IsP w p S) : Calls Try.prog 38 #[pv p.b] w fun e w' => e = .returned (.int .i64 S.ld) ∧ w' = w := by
  obtain ⟨_, _, c2⟩ := h.st
  clear h
  go_enter Try.func38, Try.ntmps38
  go_wp2_with fail
  go_ret
  exact ⟨rfl, rfl⟩
set_option maxRecDepth 100000 in
theorem vgic_any (w : World) (p : Pp) (S : Vp) (h : IsP w p S) (id : Int) (hi : I64 id) : Calls Try.prog 34 #[pv p.b, .int .i64 id] w fun e w' => e = .returned (if hasB S id then pv (p.K id).b else .pointer none) ∧ w' = w := by
  obtain ⟨_, c1, _⟩ := h.st
  have X := has_any' w p S h id hi
  cases e : hasB S id with
  | false =>
    rw [e] at X
    clear h hi e
    go_enter Try.func34, Try.ntmps34
    go_wp2_with fail
    refine X.mono ?_
    rintro e w1 ⟨rfl, rfl⟩
    go_wp2_with fail
    go_ret
    exact ⟨rfl, rfl⟩
  | true =>
    rw [e] at X
    obtain ⟨x, e⟩ := has_iff.1 e
    have l := ((h.look hi).2 x e).2
    obtain ⟨⟨⟨a, r, _⟩, _⟩, hid, _⟩ := h.has e
    rw [hid] at r
    have c8 : w.cell? ⟨p.B id, 8, none⟩ = some (pv (p.K id).b) := r.cell 8
    clear h hi e r
    go_enter Try.func34, Try.ntmps34
    go_wp2_with fail
    refine X.mono ?_
    rintro e w1 ⟨rfl, rfl⟩
    go_wp2_with fail
    go_ret
    exact ⟨rfl, rfl⟩

/-! ### Read, Write -/
set_option maxRecDepth 100000 in
set_option maxHeartbeats 2000000 in
theorem read_any (w : World) (p : Pp) (S : Vp) (h : IsP w p S) (id n : Int) (hi : I64 id) : Calls Try.prog 16 #[pv p.b, .int .i64 id, .int .i64 n] w fun e w' => e = .returned (.tuple #[.int .u32 (reaW S id n), .int .i64 (reaE S id n)]) ∧ w' = w := by
  have X := has_any' w p S h id hi
  cases e : hasB S id with
  | false =>
    have HE : Hid (reaE S id n = 181) := by show reaE S id n = 181; unfold reaE; rw [e]; rfl
    have HW : Hid (reaW S id n = 0) := by show reaW S id n = 0; unfold reaW; rw [HE.out]; rfl
    rw [e] at X
    clear h hi e
    go_enter Try.func16, Try.ntmps16
    go_wp2_with fail
    refine X.mono ?_
    rintro e w1 ⟨rfl, rfl⟩
    go_wp2_with fail
    go_ret2
    rw [HE.out, HW.out]
    exact ⟨rfl, rfl⟩
  | true =>
    cases hr : rgB n 0 7 with
    | false =>
      have HE : Hid (reaE S id n = 1) := by show reaE S id n = 1; unfold reaE; rw [e, hr]; rfl
      have HW : Hid (reaW S id n = 0) := by show reaW S id n = 0; unfold reaW; rw [HE.out]; rfl
      rw [e] at X
      have Y := within_v n 0 7 w
      rw [hr] at Y
      clear h hi e hr
      go_enter Try.func16, Try.ntmps16
      go_wp2_with fail
      refine X.mono ?_
      rintro e w1 ⟨rfl, rfl⟩
      go_wp2_with fail
      refine Y.mono ?_
      rintro e w1 ⟨rfl, rfl⟩
      go_wp2_with fail
      go_ret2
      rw [HE.out, HW.out]
      exact ⟨rfl, rfl⟩
    | true =>
      obtain ⟨x, hx⟩ := has_iff.1 e
      obtain ⟨n0, n7⟩ := rg_iff.1 hr
      obtain ⟨k, rfl⟩ : ∃ k : Nat, n = (k : Int) := ⟨n.toNat, by omega⟩
      have hk : k < 8 := by omega
      have HE : Hid (reaE S id (k : Int) = 0) := by show reaE S id (k : Int) = 0; unfold reaE; rw [e, hr]; rfl
      have HW : Hid (reaW S id (k : Int) = x.sy k) := by show reaW S id (k : Int) = x.sy k; unfold reaW; rw [HE.out, if_pos rfl, hx]; rfl
      rw [e] at X
      have Y := within_v (k : Int) 0 7 w
      rw [hr] at Y
      have ik : 0 ≤ (k : Int) ∧ (k : Int) < 8 := by omega
      by_cases hl : id = S.ld
      · have Z := regs_ld w p S h
        rw [← hl] at Z
        have c0 := h.bk hk
        rw [bk_some (by rw [← hl]; exact hx)] at c0
        clear h hi e hr hx hl n0 n7
        go_enter Try.func16, Try.ntmps16
        go_wp2_with fail
        refine X.mono ?_
        rintro e w1 ⟨rfl, rfl⟩
        go_wp2_with fail
        refine Y.mono ?_
        rintro e w1 ⟨rfl, rfl⟩
        go_wp2_with fail
        refine Z.mono ?_
        rintro e w1 ⟨rfl, rfl⟩
        go_wp2_with fail
        go_ret2
        rw [HE.out, HW.out]
        exact ⟨rfl, rfl⟩
      · have Z := regs_other w p S h id hi hl hx
        obtain ⟨⟨⟨a, r, ea⟩, _⟩, hid, _⟩ := h.has hx
        rw [ea (by rw [hid]; exact hl), hid] at r
        have c0 : w.cell? ⟨p.B id, k, none⟩ = some (.int .u32 (x.sy k)) := by
          rw [show w.cell? ⟨p.B id, k, none⟩ = (prC x.sy (p.K id).b x.th)[k]? from r.cell k, prC_at _ _ _ hk]
        clear h hi e hr hx hl n0 n7 r ea
        go_enter Try.func16, Try.ntmps16
        go_wp2_with fail
        refine X.mono ?_
        rintro e w1 ⟨rfl, rfl⟩
        go_wp2_with fail
        refine Y.mono ?_
        rintro e w1 ⟨rfl, rfl⟩
        go_wp2_with fail
        refine Z.mono ?_
        rintro e w1 ⟨rfl, rfl⟩
        go_wp2_with fail
        go_ret2
        rw [HE.out, HW.out]
        exact ⟨rfl, rfl⟩
/-- One register turned: where it lies, and what stands behind it. -/
theorem IsP.wr {w : World} {p : Pp} {S : Vp} (h : IsP w p S) {id : Int} {x : Vc} (hx : fnd S.L id = some x) {k : Nat} (hk : k < 8) (v : Int) :
    ∃ b o u, (b = if id = S.ld then p.b else p.B id) ∧ (o = if id = S.ld then 2 else 0) ∧ w.cell? ⟨b, o + k, none⟩ = some (.int .u32 u) ∧ u = x.sy k ∧ w.frozen? ⟨b, o + k, none⟩ = false ∧ ChP w p S (w.setCell ⟨b, o + k, none⟩ (.int .u32 v)) p { S with L := upd S.L id (set1R k v) } := by
  obtain ⟨⟨⟨a, r, ea⟩, hv⟩, hid, hin, _⟩ := h.has hx
  have hg := h.good.upd1 id (f := set1R k v) (fun _ => rfl) (fun _ => rfl)
  by_cases hl : id = S.ld
  · have hb : bkF S = x.sy := bk_some (by rw [← hl]; exact hx)
    have c0 := h.bk hk
    rw [hb] at c0
    refine ⟨p.b, 2, x.sy k, by rw [if_pos hl], by rw [if_pos hl], c0, rfl, h.row.frozen _, ?_⟩
    have f := fr_set w p.b (2 + k) (.int .u32 v) (Fr.refl (at' p.b) w)
    refine h.turn f (g := set1R k v) (fun _ => rfl) (fun j hj => Or.inl hj) hg ?_ (fun y hy => ?_) (fun y _ _ e => e)
    · have r' := h.row.setCell (2 + k) (.int .u32 v)
      rw [stC_set _ _ _ _ hk, hb] at r'
      rw [bk_upd (g := set1R k v) (fun _ => rfl) hx, if_pos hl.symm]
      exact r'
    · rw [hx] at hy
      cases hy
      have hbn := (h.bne hin).1
      exact ⟨⟨a, r.keep f (fun e => hbn (by have e : p.B x.id = p.b := e; exact e.symm)), fun e => absurd (hid.trans hl) e⟩, hv.keep f (fun j hj e => by
        have e : j = p.b := e
        subst e
        exact (h.bne hin).2 hj)⟩
  · rw [ea (by rw [hid]; exact hl)] at r
    rw [hid] at r hv
    have hbn : p.b ≠ p.B id := by rw [← hid]; exact (h.bne hin).1
    have c0 : w.cell? ⟨p.B id, 0 + k, none⟩ = some (.int .u32 (x.sy k)) := by
      rw [Nat.zero_add, show w.cell? ⟨p.B id, k, none⟩ = (prC x.sy (p.K id).b x.th)[k]? from r.cell k, prC_at _ _ _ hk]
    refine ⟨p.B id, 0, x.sy k, by rw [if_neg hl], by rw [if_neg hl], c0, rfl, r.frozen _, ?_⟩
    have f := fr_set w (p.B id) (0 + k) (.int .u32 v) (Fr.refl (at' (p.B id)) w)
    refine h.turn f (g := set1R k v) (fun _ => rfl) (fun j hj => Or.inr ⟨by rw [hx]; rfl, hj⟩) hg ?_ (fun y hy => ?_) (fun y _ _ e => e)
    · rw [bk_upd (g := set1R k v) (fun _ => rfl) hx, if_neg (fun e => hl e.symm)]
      exact h.row.keep f (fun e => hbn e)
    · rw [hx] at hy
      cases hy
      refine ⟨⟨(set1R k v x).sy, ?_, fun _ => rfl⟩, ?_⟩
      · show Row _ (p.B x.id) (prC (fun j => if j = k then v else x.sy j) (p.K x.id).b x.th) _
        rw [hid, Nat.zero_add]
        have r' := r.setCell k (.int .u32 v)
        rw [prC_set _ _ _ hk] at r'
        exact r'
      · show IsVg _ (p.K x.id) x.vg
        rw [hid]
        exact hv.keep f (fun j hj e => by
          have e : j = p.B id := e
          subst e
          exact h.Bne hin hin (by rw [hid]; exact hj))
set_option maxRecDepth 100000 in
set_option maxHeartbeats 2000000 in
theorem write_any (w : World) (p : Pp) (S : Vp) (h : IsP w p S) (id n v : Int) (hi : I64 id) : Calls Try.prog 17 #[pv p.b, .int .i64 id, .int .i64 n, .int .u32 v] w fun e w' => e = .returned (.int .i64 (wriE S id n)) ∧ ChP w p S w' p (wriS S id n v) := by
  have X := has_any' w p S h id hi
  have HC : Hid (ChP w p S w p S) := ChP.same h (Fr.refl _ _)
  cases e : hasB S id with
  | false =>
    have HE : Hid (wriE S id n = 181) := by show wriE S id n = 181; unfold wriE; rw [e]; rfl
    have HW : Hid (wriS S id n v = S) := by show wriS S id n v = S; unfold wriS; rw [HE.out]; rfl
    rw [e] at X
    clear h hi e
    go_enter Try.func17, Try.ntmps17
    go_wp2_with fail
    refine X.mono ?_
    rintro e w1 ⟨rfl, rfl⟩
    go_wp2_with fail
    go_ret
    rw [HE.out, HW.out]
    exact ⟨rfl, HC.out⟩
  | true =>
    cases hr : rgB n 0 5 with
    | false =>
      have HE : Hid (wriE S id n = 1) := by show wriE S id n = 1; unfold wriE; rw [e, hr]; rfl
      have HW : Hid (wriS S id n v = S) := by show wriS S id n v = S; unfold wriS; rw [HE.out]; rfl
      rw [e] at X
      have Y := within_v n 0 5 w
      rw [hr] at Y
      clear h hi e hr
      go_enter Try.func17, Try.ntmps17
      go_wp2_with fail
      refine X.mono ?_
      rintro e w1 ⟨rfl, rfl⟩
      go_wp2_with fail
      refine Y.mono ?_
      rintro e w1 ⟨rfl, rfl⟩
      go_wp2_with fail
      go_ret
      rw [HE.out, HW.out]
      exact ⟨rfl, HC.out⟩
    | true =>
      obtain ⟨x, hx⟩ := has_iff.1 e
      obtain ⟨n0, n7⟩ := rg_iff.1 hr
      obtain ⟨k, rfl⟩ : ∃ k : Nat, n = (k : Int) := ⟨n.toNat, by omega⟩
      have hk : k < 8 := by omega
      have HE : Hid (wriE S id (k : Int) = 0) := by show wriE S id (k : Int) = 0; unfold wriE; rw [e, hr]; rfl
      have HW : Hid (wriS S id (k : Int) v = { S with L := upd S.L id (set1R k v) }) := by show wriS S id (k : Int) v = _; unfold wriS; rw [HE.out, if_pos rfl]; rfl
      rw [e] at X
      have Y := within_v (k : Int) 0 5 w
      rw [hr] at Y
      have ik : 0 ≤ (k : Int) ∧ (k : Int) < 8 := by omega
      obtain ⟨b, o, u, hb, ho, c0, _, z0, C⟩ := h.wr hx hk v
      have HK : Hid _ := C
      by_cases hl : id = S.ld
      · have Z := regs_ld w p S h
        rw [← hl] at Z
        rw [if_pos hl] at hb ho
        subst hb ho
        clear h hi e hr hx hl n0 n7 C
        go_enter Try.func17, Try.ntmps17
        go_wp2_with fail
        refine X.mono ?_
        rintro e w1 ⟨rfl, rfl⟩
        go_wp2_with fail
        refine Y.mono ?_
        rintro e w1 ⟨rfl, rfl⟩
        go_wp2_with fail
        refine Z.mono ?_
        rintro e w1 ⟨rfl, rfl⟩
        go_wp2_with fail
        go_ret
        rw [HE.out, HW.out]
        exact ⟨rfl, HK.out⟩
      · have Z := regs_other w p S h id hi hl hx
        rw [if_neg hl] at hb ho
        subst hb ho
        rw [Nat.zero_add] at c0 z0 HK
        clear h hi e hr hx hl n0 n7 C
        go_enter Try.func17, Try.ntmps17
        go_wp2_with fail
        refine X.mono ?_
        rintro e w1 ⟨rfl, rfl⟩
        go_wp2_with fail
        refine Y.mono ?_
        rintro e w1 ⟨rfl, rfl⟩
        go_wp2_with fail
        refine Z.mono ?_
        rintro e w1 ⟨rfl, rfl⟩
        go_wp2_with fail
        go_ret
        rw [HE.out, HW.out]
        exact ⟨rfl, HK.out⟩

/-! ### Inject -/
theorem vg_some {S : Vp} {id : Int} {x : Vc} (h : fnd S.L id = some x) : vgI S id = x.vg := by unfold vgI; rw [h]
set_option maxRecDepth 100000 in
set_option maxHeartbeats 2000000 in
theorem injectV (w : World) (p : Pp) (S : Vp) (h : IsP w p S) (id n q : Int) (l : Bool) (hi : I64 id) : Calls Try.prog 31 #[pv p.b, .int .i64 id, .int .i64 n, .int .i64 q, .bool l] w fun e w' => e = .returned (.int .i64 (ijE S id n q)) ∧ ChP w p S w' p (ijS S id n q l) := by
  obtain ⟨_, c1, _⟩ := h.st
  have X := has_any' w p S h id hi
  have HC : Hid (ChP w p S w p S) := ChP.same h (Fr.refl _ _)
  unfold ijE ijS
  cases e : hasB S id with
  | false =>
    rw [e] at X
    clear h hi e
    go_enter Try.func31, Try.ntmps31
    go_wp2_with fail
    refine X.mono ?_
    rintro e w1 ⟨rfl, rfl⟩
    go_wp2_with fail
    go_ret
    exact ⟨rfl, HC.out⟩
  | true =>
    rw [e] at X
    obtain ⟨x, e⟩ := has_iff.1 e
    have l2 := ((h.look hi).2 x e).2
    obtain ⟨⟨⟨a, r, _⟩, hv⟩, hid, _⟩ := h.has e
    rw [hid] at r hv
    have c8 : w.cell? ⟨p.B id, 8, none⟩ = some (pv (p.K id).b) := r.cell 8
    have Y := inject_any w (p.K id) x.vg hv n q l
    rw [vg_some e]
    have HP : Hid (IsP w p S ∧ fnd S.L id = some x) := ⟨h, e⟩
    clear h hi e r hv
    go_enter Try.func31, Try.ntmps31
    go_wp2_with fail
    refine X.mono ?_
    rintro e w1 ⟨rfl, rfl⟩
    go_wp2_with fail
    refine Y.mono ?_
    rintro e w2 ⟨rfl, c⟩
    have HD : Hid _ := HP.out.1.turnV HP.out.2 c
    clear c X Y
    go_wp2_with fail
    go_ret
    exact ⟨rfl, HD.out⟩

end Go.Proofs.Ythkieoedidpkaaa
