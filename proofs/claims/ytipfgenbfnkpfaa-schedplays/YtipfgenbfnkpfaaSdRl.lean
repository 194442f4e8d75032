/-
  The program's queues and the document's one list, over plain data. No program, no statement.
-/
import Derived.Test.YtipfgenbfnkpfaaSdRefI
namespace Go.Proofs.Ytipfgenbfnkpfaa
open Go.RowKit

def keyO (L : List Tk) (x : Int) : Option Nat := (fnd L x).map fun t => ky t.d t.p
def FF (k : Int → Option Nat) (Q : List Int) : Nat → List Int := fun j => Q.filter fun x => decide (k x = some j)

theorem FF_end (k : Int → Option Nat) (Q : List Int) {i : Int} {n : Nat} (h : k i = some n) : FF k (Q ++ [i]) = uq (FF k Q) n (gEnd i) := by
  funext j
  unfold FF uq gEnd
  rw [List.filter_append]
  by_cases e : j = n
  · subst e; rw [if_pos rfl]; simp [h]
  · rw [if_neg e]
    have : ¬ n = j := fun h => e h.symm
    simp [h, this]
theorem FF_front (k : Int → Option Nat) (Q : List Int) {i : Int} {n : Nat} (h : k i = some n) : FF k (i :: Q) = uq (FF k Q) n (gFront i) := by
  funext j
  unfold FF uq gFront
  rw [List.filter_cons]
  by_cases e : j = n
  · subst e; rw [if_pos rfl, if_pos (by simp [h])]
  · rw [if_neg e, if_neg (by simp [h]; exact fun h => e h.symm)]
theorem FF_out (k : Int → Option Nat) (Q : List Int) {i : Int} {n : Nat} (h : k i = some n) : FF k (gOut i Q) = uq (FF k Q) n (gOut i) := by
  funext j
  unfold FF uq gOut
  rw [List.filter_filter]
  by_cases e : j = n
  · subst e
    rw [if_pos rfl, List.filter_filter]
    apply List.filter_congr
    intro x _
    exact Bool.and_comm _ _
  · rw [if_neg e]
    apply List.filter_congr
    intro x _
    by_cases ex : x = i
    · subst ex
      have : ¬ n = j := fun h => e h.symm
      simp [h, this]
    · simp [ex]
theorem FF_congr {k k' : Int → Option Nat} {Q : List Int} (h : ∀ x ∈ Q, k x = k' x) : FF k Q = FF k' Q := by
  funext j
  unfold FF
  apply List.filter_congr
  intro x hx
  rw [h x hx]

structure Rl (S : Sd) (Q : List Int) : Prop where
  nd : Q.Nodup
  al : ∀ x ∈ Q, ∃ t, fnd S.L x = some t
  qs : S.q = FF (keyO S.L) Q

theorem Rl.mem {S : Sd} {Q : List Int} (h : Rl S Q) (ok : OkQ S) (x : Int) : x ∈ Q ↔ x ≠ S.c ∧ ∃ t, fnd S.L x = some t ∧ t.a = true := by
  constructor
  · intro hx
    obtain ⟨t, ht⟩ := h.al x hx
    have : x ∈ S.q (ky t.d t.p) := by
      rw [h.qs]
      unfold FF
      rw [List.mem_filter]
      exact ⟨hx, by simp [keyO, ht]⟩
    obtain ⟨a, t', b, c, _⟩ := (ok.qi.mem _ x).1 this
    exact ⟨a, t', b, c⟩
  · rintro ⟨a, t, b, c⟩
    have : x ∈ S.q (ky t.d t.p) := (ok.qi.mem _ x).2 ⟨a, t, b, c, rfl⟩
    rw [h.qs] at this
    exact (List.mem_filter.1 this).1
theorem Rl.len {S : Sd} {Q : List Int} (h : Rl S Q) (ok : OkQ S) : Q.length ≤ 1024 := len_ids 1024 Q h.nd fun x hx => by
  obtain ⟨t, ht⟩ := h.al x hx
  have := fnd_pos ok.gl ht
  omega

theorem nodup_out {Q : List Int} (h : Q.Nodup) (i : Int) : (gOut i Q).Nodup := h.filter _
theorem mem_out {Q : List Int} {i x : Int} : x ∈ gOut i Q ↔ x ∈ Q ∧ x ≠ i := by unfold gOut; simp
theorem nodup_end {Q : List Int} (h : Q.Nodup) {i : Int} (hi : i ∉ Q) : (Q ++ [i]).Nodup := by
  rw [List.nodup_append]
  refine ⟨h, by simp, fun a ha b hb e => ?_⟩
  rw [List.mem_singleton] at hb
  subst hb
  subst e
  exact hi ha

theorem rl_add {S : Sd} {Q : List Int} (h : Rl S Q) (i p d : Int) : Rl (addS S i p d) Q := by
  unfold addS
  split
  · rename_i e
    have hf : fnd S.L i = none := by
      cases hf : fnd S.L i with
      | none => rfl
      | some t =>
        unfold addE at e
        split at e
        · rw [hf] at e; simp at e
        · omega
    have key : ∀ x ∈ Q, fnd (S.L ++ [⟨i, p, d, 4, false⟩]) x = fnd S.L x := fun x hx => by
      obtain ⟨t, ht⟩ := h.al x hx
      rw [fnd_append, ht]
    refine ⟨h.nd, fun x hx => ?_, ?_⟩
    · obtain ⟨t, ht⟩ := h.al x hx
      exact ⟨t, (key x hx).trans ht⟩
    · show S.q = FF (keyO (S.L ++ [⟨i, p, d, 4, false⟩])) Q
      rw [h.qs]
      apply FF_congr
      intro x hx
      unfold keyO
      rw [key x hx]
  · exact h

theorem keyO_upd (L : List Tk) (k : Int) {f : Tk → Tk} (hf : ∀ t, (f t).i = t.i) (hk : ∀ t, (f t).d = t.d ∧ (f t).p = t.p) : keyO (upd L k f) = keyO L := by
  funext x
  unfold keyO
  rw [fnd_upd1 L k hf]
  by_cases e : x = k
  · subst e
    rw [if_pos rfl]
    cases fnd L x with
    | none => rfl
    | some t => simp [(hk t).1, (hk t).2]
  · rw [if_neg e]
theorem al_upd {L : List Tk} {k : Int} {f : Tk → Tk} (hf : ∀ t, (f t).i = t.i) {x : Int} (h : ∃ t, fnd L x = some t) : ∃ t, fnd (upd L k f) x = some t := by
  obtain ⟨t, ht⟩ := h
  rw [fnd_upd1 L k hf]
  by_cases e : x = k
  · subst e; rw [if_pos rfl, ht]; exact ⟨_, rfl⟩
  · rw [if_neg e]; exact ⟨t, ht⟩
theorem keyO_some {L : List Tk} {x : Int} {t : Tk} (h : fnd L x = some t) : keyO L x = some (ky t.d t.p) := by unfold keyO; rw [h]; rfl

theorem rl_wake {S : Sd} {Q : List Int} (ok : OkQ S) (h : Rl S Q) (i : Int) : Rl (wakS S i) (wakQ S Q i) := by
  unfold wakS wakQ
  cases hf : fnd S.L i with
  | none => exact h
  | some t =>
    dsimp only
    cases ha : t.a with
    | true => simp only [if_true]; exact h
    | false =>
      simp only [Bool.false_eq_true, if_false]
      have hi := fnd_i' hf
      have hk := keyO_upd S.L i (f := setA true) (fun _ => rfl) (fun _ => ⟨rfl, rfl⟩)
      have hni : i ∉ Q := fun hx => by
        obtain ⟨_, t', e1, e2⟩ := (h.mem ok i).1 hx
        rw [hf] at e1; cases e1
        rw [ha] at e2; cases e2
      refine ⟨nodup_end h.nd hni, fun x hx => al_upd (f := setA true) (fun _ => rfl) ?_, ?_⟩
      · rcases List.mem_append.mp hx with hx | hx
        · exact h.al x hx
        · rw [List.mem_singleton] at hx; subst hx; exact ⟨t, hf⟩
      · show uq S.q (ky t.d t.p) (gEnd t.i) = FF (keyO (upd S.L i (setA true))) (Q ++ [i])
        rw [hk, hi, h.qs, FF_end _ _ (keyO_some hf)]

theorem rl_stop {S : Sd} {Q : List Int} (ok : OkQ S) (h : Rl S Q) (i : Int) : Rl (stoS S i) (stoQ S Q i) := by
  unfold stoS stoQ
  cases hf : fnd S.L i with
  | none => exact h
  | some t =>
    dsimp only
    have hi := fnd_i' hf
    have hk := keyO_upd S.L i (f := setA false) (fun _ => rfl) (fun _ => ⟨rfl, rfl⟩)
    refine ⟨nodup_out h.nd i, fun x hx => al_upd (f := setA false) (fun _ => rfl) (h.al x (mem_out.1 hx).1), ?_⟩
    show (if rdy S t then app S t gOut else S).q = FF (keyO (upd S.L i (setA false))) (gOut i Q)
    rw [hk, FF_out _ _ (keyO_some hf), ← h.qs]
    cases hr : rdy S t with
    | true =>
      simp only [if_true]
      show uq S.q (ky t.d t.p) (gOut t.i) = _
      rw [hi]
    | false =>
      simp only [Bool.false_eq_true, if_false]
      funext j
      unfold uq
      split
      · unfold gOut
        refine (List.filter_eq_self.2 fun x hx => ?_).symm
        have : x ≠ i := by
          rintro rfl
          obtain ⟨e0, t', e1, e2, _⟩ := (ok.qi.mem _ _).1 hx
          rw [hf] at e1; cases e1
          have := rdy_iff.2 ⟨e2, by rw [hi]; exact e0⟩
          rw [this] at hr; cases hr
        simpa using this
      · rfl

theorem rl_drop {S : Sd} {Q : List Int} (ok : OkQ S) (h : Rl S Q) (i : Int) : Rl (droS S i) (stoQ S Q i) := by
  have h1 := rl_stop ok h i
  have ok1 := (okq_stop ok i).1
  have k1 := stoS_fnd1 S i
  have hni : i ∉ stoQ S Q i := fun hx => by
    obtain ⟨_, t', e1, e2⟩ := (h1.mem ok1 i).1 hx
    rw [k1, if_pos rfl] at e1
    cases hf : fnd S.L i with
    | none => rw [hf] at e1; cases e1
    | some t => rw [hf] at e1; cases e1; cases e2
  have key : ∀ x ∈ stoQ S Q i, fnd (del (stoS S i).L i) x = fnd (stoS S i).L x := fun x hx => by
    rw [fnd_del, if_neg (fun e => by subst e; exact hni hx)]
  unfold droS
  refine ⟨h1.nd, fun x hx => ?_, ?_⟩
  · obtain ⟨t, ht⟩ := h1.al x hx
    exact ⟨t, (key x hx).trans ht⟩
  · show (stoS S i).q = FF (keyO (del (stoS S i).L i)) (stoQ S Q i)
    rw [h1.qs]
    apply FF_congr
    intro x hx
    unfold keyO
    rw [key x hx]

theorem rl_place {S : Sd} {Q : List Int} (ok : OkQ S) (h : Rl S Q) {i : Int} {t : Tk} (hf : fnd S.L i = some t) (p d : Int) : Rl (plaS S t p d) (agaQ S Q t) := by
  have hi := fnd_i' hf
  have key := fnd_upd1 S.L i (f := setPD p d) (fun _ => rfl)
  have k2 : ∀ x, x ≠ i → keyO (upd S.L i (setPD p d)) x = keyO S.L x := fun x e => by unfold keyO; rw [key, if_neg e]
  have k3 : keyO (upd S.L i (setPD p d)) i = some (ky d p) := by unfold keyO; rw [key, if_pos rfl, hf]; rfl
  unfold plaS agaQ
  rw [hi]
  cases hr : rdy S t with
  | true =>
    simp only [if_true]
    refine ⟨nodup_end (nodup_out h.nd i) (fun hx => (mem_out.1 hx).2 rfl), fun x hx => al_upd (f := setPD p d) (fun _ => rfl) ?_, ?_⟩
    · rcases List.mem_append.mp hx with hx | hx
      · exact h.al x (mem_out.1 hx).1
      · rw [List.mem_singleton] at hx; subst hx; exact ⟨t, hf⟩
    · show uq (uq S.q (ky t.d t.p) (gOut t.i)) (ky d p) (gEnd t.i) = FF (keyO (upd S.L i (setPD p d))) (gOut i Q ++ [i])
      rw [FF_end _ _ k3, FF_congr (k' := keyO S.L) (fun x hx => k2 x (mem_out.1 hx).2), FF_out _ _ (keyO_some hf), ← h.qs, hi]
  | false =>
    simp only [Bool.false_eq_true, if_false]
    have hni : i ∉ Q := fun hx => by
      obtain ⟨e0, t', e1, e2⟩ := (h.mem ok i).1 hx
      rw [hf] at e1; cases e1
      have := rdy_iff.2 ⟨e2, by rw [hi]; exact e0⟩
      rw [this] at hr; cases hr
    refine ⟨h.nd, fun x hx => al_upd (f := setPD p d) (fun _ => rfl) (h.al x hx), ?_⟩
    show S.q = FF (keyO (upd S.L i (setPD p d))) Q
    rw [FF_congr (k' := keyO S.L) (fun x hx => k2 x (fun e => hni (by rw [← e]; exact hx)))]
    exact h.qs
theorem rl_pri {S : Sd} {Q : List Int} (ok : OkQ S) (h : Rl S Q) (i p : Int) : Rl (priS S i p) (priQ S Q i p) := by
  unfold priS priQ
  cases hf : fnd S.L i with
  | none => exact h
  | some t =>
    dsimp only
    split
    · exact rl_place ok h hf p t.d
    · exact h
theorem rl_dom {S : Sd} {Q : List Int} (ok : OkQ S) (h : Rl S Q) (i d : Int) : Rl (domS S i d) (domQ S Q i d) := by
  unfold domS domQ
  cases hf : fnd S.L i with
  | none => exact h
  | some t =>
    dsimp only
    split
    · exact rl_place ok h hf t.p d
    · exact h

theorem cur_not {S : Sd} {Q : List Int} (ok : OkQ S) (h : Rl S Q) : S.c ∉ Q := fun hx => ((h.mem ok _).1 hx).1 rfl
theorem rl_backE {S : Sd} {Q : List Int} (ok : OkQ S) (h : Rl S Q) (hc : S.c ≠ -1) : Rl (back S gEnd) (Q ++ [S.c]) := by
  obtain ⟨hf, _, hi⟩ := ok.get hc
  refine ⟨nodup_end h.nd (cur_not ok h), fun x hx => ?_, ?_⟩
  · rcases List.mem_append.mp hx with hx | hx
    · exact h.al x hx
    · rw [List.mem_singleton] at hx; subst hx; exact ⟨_, hf⟩
  · show uq S.q (ky (curT S).d (curT S).p) (gEnd (curT S).i) = FF (keyO S.L) (Q ++ [S.c])
    rw [FF_end _ _ (keyO_some hf), ← h.qs, hi]
theorem rl_backF {S : Sd} {Q : List Int} (ok : OkQ S) (h : Rl S Q) (hc : S.c ≠ -1) : Rl (back S gFront) (S.c :: Q) := by
  obtain ⟨hf, _, hi⟩ := ok.get hc
  refine ⟨List.nodup_cons.2 ⟨cur_not ok h, h.nd⟩, fun x hx => ?_, ?_⟩
  · rcases List.mem_cons.mp hx with hx | hx
    · subst hx; exact ⟨_, hf⟩
    · exact h.al x hx
  · show uq S.q (ky (curT S).d (curT S).p) (gFront (curT S).i) = FF (keyO S.L) (S.c :: Q)
    rw [FF_front _ _ (keyO_some hf), ← h.qs, hi]
theorem rl_slice {S : Sd} {Q : List Int} (h : Rl S Q) (k s : Int) : Rl { S with L := upd S.L k (setSl s) } Q := by
  refine ⟨h.nd, fun x hx => al_upd (f := setSl s) (fun _ => rfl) (h.al x hx), ?_⟩
  show S.q = FF (keyO (upd S.L k (setSl s))) Q
  rw [keyO_upd S.L k (f := setSl s) (fun _ => rfl) (fun _ => ⟨rfl, rfl⟩)]
  exact h.qs
theorem rl_yield {S : Sd} {Q : List Int} (ok : OkQ S) (h : Rl S Q) : Rl (yieS S) (yieQ S Q) := by
  unfold yieS yieQ
  split
  · exact h
  · rename_i hc
    exact rl_backE (S := { S with L := upd S.L S.c (setSl 4) }) (okq_slice ok (by omega) (by omega) S.c) (rl_slice h S.c 4) hc
theorem rl_spend {S : Sd} {Q : List Int} (ok : OkQ S) (h : Rl S Q) : Rl (speS S) (speQ S Q) := by
  rw [speS_eq]
  unfold speQ
  split
  · exact h
  · rename_i hc
    split
    · have := rl_yield ok h
      unfold yieQ at this
      rw [if_neg hc] at this
      exact this
    · exact rl_slice h S.c _
theorem rl_of {S S' : Sd} {Q : List Int} (h : Rl S Q) (e1 : S'.L = S.L) (e2 : S'.q = S.q) : Rl S' Q := ⟨h.nd, fun x hx => by rw [e1]; exact h.al x hx, by rw [e1, e2]; exact h.qs⟩
theorem rl_tick {S : Sd} {Q : List Int} (ok : OkQ S) (h : Rl S Q) : Rl (ticS S) (ticQ S Q) := by
  have h1 := rl_spend ok h
  have ok1 := okq_spend ok
  unfold ticS ticQ
  dsimp only
  rw [(speS_rest S).2.2]
  split
  · unfold nexS
    by_cases e : (speS S).c ≠ -1 ∧ pe (turS { speS S with lf := 0 }) ≠ pe { speS S with lf := 0 }
    · have e' : ({ speS S with lf := 0 } : Sd).c ≠ -1 ∧ pe (turS { speS S with lf := 0 }) ≠ pe { speS S with lf := 0 } := e
      rw [if_pos e, if_pos e']
      exact rl_backF (S := turS { speS S with lf := 0 }) (okq_turn (okq_lf ok1 0)) (rl_of h1 rfl rfl) e.1
    · have e' : ¬ (({ speS S with lf := 0 } : Sd).c ≠ -1 ∧ pe (turS { speS S with lf := 0 }) ≠ pe { speS S with lf := 0 }) := e
      rw [if_neg e, if_neg e']
      exact rl_of h1 rfl rfl
  · exact rl_of h1 rfl rfl
theorem rl_sett {S : Sd} {Q : List Int} (ok : OkQ S) (gt : GoodT S) (h : Rl S Q) : Rl (sett S) (settQ S Q) := by
  unfold sett settQ
  cases hu : urg S (pe S) 64 with
  | none => exact h
  | some x =>
    obtain ⟨t, hf, ha, hd, hx, hq, _⟩ := urg_is ok ⟨gt.pt.d0, gt.pt.d1⟩ hu
    have hi := fnd_i' hf
    dsimp only
    rw [hf]
    have e0 : (some t).getD T0 = t := rfl
    rw [e0]
    by_cases hc : S.c = -1
    · rw [if_pos hc, if_pos hc]
      refine ⟨nodup_out h.nd x, fun y hy => h.al y (mem_out.1 hy).1, ?_⟩
      show uq S.q (ky t.d t.p) (gOut t.i) = FF (keyO S.L) (gOut x Q)
      rw [FF_out _ _ (keyO_some hf), ← h.qs, hi]
    · rw [if_neg hc, if_neg hc]
      by_cases hp : t.p ≤ (curT S).p
      · rw [if_pos hp, if_pos hp]; exact h
      · rw [if_neg hp, if_neg hp]
        have hb := rl_backF ok h hc
        have hne : x ≠ S.c := hx
        refine ⟨List.nodup_cons.2 ⟨fun hh => cur_not ok h (mem_out.1 hh).1, nodup_out h.nd x⟩, fun y hy => ?_, ?_⟩
        · rcases List.mem_cons.mp hy with hy | hy
          · subst hy; exact ⟨_, (ok.get hc).1⟩
          · exact h.al y (mem_out.1 hy).1
        · show uq (back S gFront).q (ky t.d t.p) (gOut t.i) = FF (keyO S.L) (S.c :: gOut x Q)
          have e1 : S.c :: gOut x Q = gOut x (S.c :: Q) := by
            unfold gOut
            rw [List.filter_cons, if_pos (by simp; exact fun e => hne e.symm)]
          rw [e1, FF_out _ _ (keyO_some hf), hi]
          have := hb.qs
          show uq (back S gFront).q _ _ = uq (FF (keyO (back S gFront).L) (S.c :: Q)) _ _
          rw [← this]
theorem rl_settle {S : Sd} {Q : List Int} (ok : Ok S) (h : Rl S Q) : Rl (setS S) (setQ S Q) := by
  unfold setS setQ
  by_cases e : S.c ≠ -1 ∧ (curT S).d ≠ pe S
  · rw [if_pos e, if_pos e]
    exact rl_sett (okq_backE ok.q e.1) (goodT_back ok.t _) (rl_backE ok.q h e.1)
  · rw [if_neg e, if_neg e]
    exact rl_sett ok.q ok.t h

/-! ### the document's highest one -/
structure HSp (L : List Tk) (d : Int) (Q : List Int) (b : Option Tk) : Prop where
  no : b = none → ∀ x ∈ Q, ∀ t, fnd L x = some t → t.d ≠ d
  yes : ∀ t, b = some t → ∃ pre x post, Q = pre ++ x :: post ∧ fnd L x = some t ∧ t.d = d ∧ (∀ y ∈ pre, ∀ u, fnd L y = some u → u.d = d → u.p < t.p) ∧ (∀ y ∈ Q, ∀ u, fnd L y = some u → u.d = d → u.p ≤ t.p)
theorem hsp_step {L : List Tk} {d : Int} {Q : List Int} {b : Option Tk} (h : HSp L d Q b) (x : Int) : HSp L d (Q ++ [x]) (higS L d b x) := by
  unfold higS
  cases hf : fnd L x with
  | none =>
    dsimp only
    refine ⟨fun e y hy t ht => ?_, fun t e => ?_⟩
    · rcases List.mem_append.mp hy with hy | hy
      · exact h.no e y hy t ht
      · rw [List.mem_singleton] at hy; subst hy; rw [hf] at ht; cases ht
    · obtain ⟨pre, z, post, e1, e2, e3, e4, e5⟩ := h.yes t e
      refine ⟨pre, z, post ++ [x], by rw [e1]; simp, e2, e3, e4, fun y hy u hu hd => ?_⟩
      rcases List.mem_append.mp hy with hy | hy
      · exact e5 y hy u hu hd
      · rw [List.mem_singleton] at hy; subst hy; rw [hf] at hu; cases hu
  | some t =>
    dsimp only
    by_cases hd : t.d = d
    · rw [if_pos hd]
      cases b with
      | none =>
        dsimp only
        refine ⟨fun e => (by cases e), fun t' e => ?_⟩
        cases e
        refine ⟨Q, x, [], by simp, hf, hd, fun y hy u hu hud => absurd hud (h.no rfl y hy u hu), fun y hy u hu hud => ?_⟩
        rcases List.mem_append.mp hy with hy | hy
        · exact absurd hud (h.no rfl y hy u hu)
        · rw [List.mem_singleton] at hy; subst hy; rw [hf] at hu; cases hu; exact Int.le_refl _
      | some u0 =>
        dsimp only
        obtain ⟨pre, z, post, e1, e2, e3, e4, e5⟩ := h.yes u0 rfl
        by_cases hp : u0.p < t.p
        · rw [if_pos hp]
          refine ⟨fun e => (by cases e), fun t' e => ?_⟩
          cases e
          refine ⟨Q, x, [], by simp, hf, hd, fun y hy u hu hud => by have := e5 y hy u hu hud; omega, fun y hy u hu hud => ?_⟩
          rcases List.mem_append.mp hy with hy | hy
          · have := e5 y hy u hu hud; omega
          · rw [List.mem_singleton] at hy; subst hy; rw [hf] at hu; cases hu; exact Int.le_refl _
        · rw [if_neg hp]
          refine ⟨fun e => (by cases e), fun t' e => ?_⟩
          cases e
          refine ⟨pre, z, post ++ [x], by rw [e1]; simp, e2, e3, e4, fun y hy u hu hud => ?_⟩
          rcases List.mem_append.mp hy with hy | hy
          · exact e5 y hy u hu hud
          · rw [List.mem_singleton] at hy; subst hy; rw [hf] at hu; cases hu; omega
    · rw [if_neg hd]
      refine ⟨fun e y hy u hu => ?_, fun t' e => ?_⟩
      · rcases List.mem_append.mp hy with hy | hy
        · exact h.no e y hy u hu
        · rw [List.mem_singleton] at hy; subst hy; rw [hf] at hu; cases hu; exact hd
      · obtain ⟨pre, z, post, e1, e2, e3, e4, e5⟩ := h.yes t' e
        refine ⟨pre, z, post ++ [x], by rw [e1]; simp, e2, e3, e4, fun y hy u hu hud => ?_⟩
        rcases List.mem_append.mp hy with hy | hy
        · exact e5 y hy u hu hud
        · rw [List.mem_singleton] at hy; subst hy; rw [hf] at hu; cases hu; exact absurd hud hd
theorem hsp_all (L : List Tk) (d : Int) : ∀ (Q P : List Int) (b : Option Tk), HSp L d P b → HSp L d (P ++ Q) (Q.foldl (higS L d) b)
  | [], P, b, h => by rw [List.append_nil]; exact h
  | x :: Q, P, b, h => by
    have := hsp_all L d Q (P ++ [x]) (higS L d b x) (hsp_step h x)
    rw [List.append_assoc] at this
    exact this
theorem hsp_hig (L : List Tk) (d : Int) (Q : List Int) : HSp L d Q (hig L d Q) := by
  have := hsp_all L d Q [] none ⟨fun _ x hx => (by cases hx), fun t e => (by cases e)⟩
  exact this

theorem higOk {S : Sd} {Q : List Int} (ok : OkQ S) (gt : GoodT S) (h : Rl S Q) : HigOk S Q := by
  have hb0 : 0 ≤ pe S := gt.pt.d0
  have hb1 : pe S ≤ 3 := gt.pt.d1
  have sp := hsp_hig S.L (pe S) Q
  have inq : ∀ x ∈ Q, ∀ t, fnd S.L x = some t → x ∈ S.q (ky t.d t.p) := fun x hx t ht => by
    rw [h.qs]
    unfold FF
    rw [List.mem_filter]
    exact ⟨hx, by simp [keyO, ht]⟩
  refine ⟨fun hu => ?_, fun x hu => ?_⟩
  · cases hh : hig S.L (pe S) Q with
    | none => rfl
    | some t =>
      obtain ⟨pre, y, post, e1, e2, e3, _⟩ := sp.yes t hh
      have ok1 := ok.gl.all t (fnd_mem e2).1
      have := inq y (by rw [e1]; simp) t e2
      have hz := urg_none hu t.p.toNat (by have := ok1.p0; have := ok1.p1; omega)
      rw [e3] at this
      unfold ky at this
      rw [hz] at this
      cases this
  · obtain ⟨t, hf, ha, hd, hx, ⟨l, hq⟩, hz⟩ := urg_is ok ⟨hb0, hb1⟩ hu
    have okt := ok.gl.all t (fnd_mem hf).1
    have hxQ : x ∈ Q := (h.mem ok x).2 ⟨hx, t, hf, ha⟩
    refine ⟨t, hf, ?_⟩
    cases hh : hig S.L (pe S) Q with
    | none => exact absurd hd (sp.no hh x hxQ t hf)
    | some t' =>
      obtain ⟨pre, y, post, e1, e2, e3, e4, e5⟩ := sp.yes t' hh
      have ok1 := ok.gl.all t' (fnd_mem e2).1
      have le1 := e5 x hxQ t hf hd
      have hyq := inq y (by rw [e1]; simp) t' e2
      have le2 : t'.p ≤ t.p := Classical.byContradiction fun hn => by
        have := hz t'.p (by omega) (by have := ok1.p1; omega)
        rw [e3, this] at hyq
        cases hyq
      have ep : t'.p = t.p := by omega
      have hpre : pre.filter (fun x => decide (keyO S.L x = some (ky t.d t.p))) = [] := by
        rw [List.filter_eq_nil_iff]
        intro z hz2
        simp only [decide_eq_true_eq]
        intro hk
        have hzQ : z ∈ Q := by rw [e1]; exact List.mem_append_left _ hz2
        obtain ⟨u, hu2⟩ := h.al z hzQ
        have oku := ok.gl.all u (fnd_mem hu2).1
        rw [keyO_some hu2] at hk
        have hk' := Option.some.inj hk
        obtain ⟨a, b⟩ := ky_inj oku.d0 ⟨oku.p0, by have := oku.p1; omega⟩ okt.d0 ⟨okt.p0, by have := okt.p1; omega⟩ hk'
        have := e4 z hz2 u hu2 (by omega)
        omega
      have hq2 : S.q (ky t.d t.p) = y :: post.filter (fun x => decide (keyO S.L x = some (ky t.d t.p))) := by
        rw [h.qs]
        unfold FF
        rw [e1, List.filter_append, hpre, List.nil_append, List.filter_cons, if_pos]
        simp only [decide_eq_true_eq]
        rw [keyO_some e2, e3, ep, hd]
      rw [hq] at hq2
      have ey : x = y := (List.cons.inj hq2).1
      rw [ey, e2] at hf
      exact hf

theorem rl_new (L : List Tn) : Rl (newSd L) [] := ⟨List.nodup_nil, fun x hx => (by cases hx), by funext j; rfl⟩
theorem rea_same {S : Sd} {Q : List Int} (ok : OkQ S) (h : Rl S Q) (d p : Int) : reaL S d p = Q.filter fun x => match fnd S.L x with | some t => decide (t.d = d) && decide (t.p = p) | none => false := by
  unfold reaL
  split
  · rename_i hb
    rw [h.qs]
    unfold FF
    apply List.filter_congr
    intro x hx
    obtain ⟨t, ht⟩ := h.al x hx
    have okt := ok.gl.all t (fnd_mem ht).1
    rw [keyO_some ht, ht]
    dsimp only
    rw [Bool.eq_iff_iff]
    simp only [decide_eq_true_eq, Bool.and_eq_true, Option.some.injEq]
    constructor
    · intro e
      exact ky_inj okt.d0 ⟨okt.p0, by have := okt.p1; omega⟩ hb.1 ⟨hb.2.2.1, hb.2.2.2⟩ e
    · rintro ⟨rfl, rfl⟩; rfl
  · rename_i hb
    refine (List.filter_eq_nil_iff.2 fun x hx => ?_).symm
    obtain ⟨t, ht⟩ := h.al x hx
    have okt := ok.gl.all t (fnd_mem ht).1
    rw [ht]
    simp only [Bool.and_eq_true, decide_eq_true_eq]
    rintro ⟨rfl, rfl⟩
    exact hb ⟨okt.d0, by have := okt.d1; omega, okt.p0, by have := okt.p1; omega⟩

end Go.Proofs.Ytipfgenbfnkpfaa
