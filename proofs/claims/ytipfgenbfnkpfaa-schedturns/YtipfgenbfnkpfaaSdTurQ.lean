/-
  Threads of one priority take turns, over plain data. No program, no statement.
-/
import Derived.Test.YtipfgenbfnkpfaaSdLawP
namespace Go.Proofs.Ytipfgenbfnkpfaa
open Go.RowKit

/-- Whose turn it is; who is behind it. -/
def hdT (m a : Nat) : Int := 10 + ((a % m : Nat) : Int)
def rtl (m a : Nat) : List Int := (List.range (m - 1)).map fun k : Nat => 10 + (((a + (k + 1)) % m : Nat) : Int)

theorem rot_ids (m : Nat) (hm : 1 ≤ m) : ids m = hdT m 0 :: rtl m 0 := by
  obtain ⟨n, rfl⟩ : ∃ n, m = n + 1 := ⟨m - 1, by omega⟩
  unfold ids hdT rtl
  rw [List.range_succ_eq_map, List.map_cons, List.map_map]
  simp only [Nat.add_sub_cancel]
  congr 1
  apply List.map_congr_left
  intro k hk
  rw [List.mem_range] at hk
  show 10 + (((k + 1 : Nat)) : Int) = _
  rw [Nat.zero_add, Nat.mod_eq_of_lt (by omega : k + 1 < n + 1)]
theorem rot_next (m a : Nat) (hm : 1 ≤ m) : rtl m a ++ [hdT m a] = hdT m (a + 1) :: rtl m (a + 1) := by
  obtain ⟨n, rfl⟩ : ∃ n, m = n + 1 := ⟨m - 1, by omega⟩
  have e1 : hdT (n + 1) (a + 1) :: rtl (n + 1) (a + 1) = (List.range (n + 1)).map fun k : Nat => 10 + (((a + (k + 1)) % (n + 1) : Nat) : Int) := by
    unfold hdT rtl
    rw [List.range_succ_eq_map, List.map_cons, List.map_map]
    simp only [Nat.add_sub_cancel]
    congr 1
    apply List.map_congr_left
    intro k _
    show 10 + (((a + 1 + (k + 1)) % (n + 1) : Nat) : Int) = 10 + (((a + (k + 1 + 1)) % (n + 1) : Nat) : Int)
    rw [show a + 1 + (k + 1) = a + (k + 1 + 1) by omega]
  rw [e1, List.range_succ, List.map_append]
  unfold rtl hdT
  simp only [Nat.add_sub_cancel, List.map_cons, List.map_nil, Nat.add_mod_right]

/-- What stands at every tick. -/
structure Tu (p : Int) (m i : Nat) (S : Sd) : Prop where
  t : OneT i S
  o : ∀ x, 10 ≤ x → x < 10 + (m : Int) → sta S.L x = some (p, 0, true)
  z : ∀ j, j < 64 → j ≠ ky 0 p → S.q j = []
  s : ∀ x t, fnd S.L x = some t → t.s = if i % 4 ≠ 0 ∧ x = hdT m (i / 4) then 4 - ((i % 4 : Nat) : Int) else 4
structure TuB (p : Int) (m i : Nat) (S : Sd) : Prop where
  tu : Tu p m i S
  c : if i % 4 = 0 then S.c = -1 ∧ S.q (ky 0 p) = hdT m (i / 4) :: rtl m (i / 4) else S.c = hdT m (i / 4) ∧ S.q (ky 0 p) = rtl m (i / 4)
structure TuM (p : Int) (m i : Nat) (S : Sd) : Prop where
  tu : Tu p m i S
  c : S.c = hdT m (i / 4)
  q : S.q (ky 0 p) = rtl m (i / 4)

theorem hd_range (m a : Nat) (hm : 1 ≤ m) : 10 ≤ hdT m a ∧ hdT m a < 10 + (m : Int) := by
  have := Nat.mod_lt a (by omega : m > 0)
  unfold hdT
  omega
theorem ky0 {p : Int} (hp : 0 ≤ p ∧ p < 64) : ky 0 p = p.toNat ∧ ky 0 p < 64 := by
  unfold ky
  have : (0 : Int).toNat = 0 := rfl
  rw [this]
  omega

theorem TuB.settle {p : Int} {m i : Nat} {S : Sd} (ok : Ok S) (h : TuB p m i S) (hm : 1 ≤ m) (hp : 0 ≤ p ∧ p < 64) : TuM p m i (setS S) := by
  have hpe := h.tu.t.pe
  have hr := hd_range m (i / 4) hm
  obtain ⟨k1, k2⟩ := ky0 hp
  have hurg : ∀ x, urg S 0 64 = some x → ∃ t, fnd S.L x = some t ∧ t.p = p ∧ t.d = 0 ∧ ∃ l, S.q (ky 0 p) = x :: l := fun x hu => by
    obtain ⟨t, hf, ha, hd, hx, ⟨l, hq⟩, _⟩ := urg_is ok.q (by omega) hu
    have okt := ok.q.gl.all t (fnd_mem hf).1
    have b0 := okt.p0
    have b1 := okt.p1
    rw [hd] at hq
    have hk : ky 0 t.p = ky 0 p := Classical.byContradiction fun hn => by
      have := h.tu.z (ky 0 t.p) (ky0 ⟨b0, by omega⟩).2 hn
      rw [this] at hq
      cases hq
    have := (ky_inj (by omega) ⟨b0, by omega⟩ (by omega) hp hk).2
    exact ⟨t, hf, this, hd, l, by rw [← hk]; exact hq⟩
  have hc := h.c
  by_cases h4 : i % 4 = 0
  · rw [if_pos h4] at hc
    obtain ⟨c1, q1⟩ := hc
    obtain ⟨t, ft, tp, td, ta⟩ := sta_some (h.tu.o _ hr.1 hr.2)
    have hu : urg S (pe S) 64 = some (hdT m (i / 4)) := by
      rw [hpe]
      cases hh : urg S 0 64 with
      | none =>
        have := urg_none hh p.toNat (by omega)
        rw [show (0 : Int).toNat * 64 + p.toNat = ky 0 p from rfl, q1] at this
        cases this
      | some x =>
        obtain ⟨_, _, _, _, l, hl⟩ := hurg x hh
        rw [q1] at hl
        simp only [List.cons.injEq] at hl
        rw [hl.1]
    have e : setS S = { app S t gOut with c := hdT m (i / 4) } := by
      unfold setS
      rw [if_neg (fun e => e.1 c1)]
      unfold sett
      rw [hu]
      dsimp only
      rw [if_pos c1, ft]
      rfl
    have ti := fnd_i' ft
    rw [e]
    refine ⟨⟨⟨h.tu.t.tb, h.tu.t.tn, h.tu.t.lf⟩, h.tu.o, fun j hj hn => ?_, h.tu.s⟩, rfl, ?_⟩
    · show uq S.q (ky t.d t.p) (gOut t.i) j = []
      rw [td, tp, uq_other _ _ hn]
      exact h.tu.z j hj hn
    · show uq S.q (ky t.d t.p) (gOut t.i) (ky 0 p) = _
      rw [td, tp, uq_same, q1, ti]
      have nd := ok.q.qi.nd (ky 0 p)
      rw [q1, List.nodup_cons] at nd
      unfold gOut
      rw [List.filter_cons]
      simp only [beq_self_eq_true, Bool.not_true, Bool.false_eq_true, if_false]
      exact List.filter_eq_self.2 fun x hx => by
        have : x ≠ hdT m (i / 4) := fun e => nd.1 (by rw [← e]; exact hx)
        simpa using this
  · rw [if_neg h4] at hc
    obtain ⟨c1, q1⟩ := hc
    have hne : S.c ≠ -1 := by rw [c1]; omega
    obtain ⟨t, ft, tp, td, ta⟩ := sta_some (h.tu.o _ hr.1 hr.2)
    have hcu : curT S = t := by unfold curT; rw [c1, ft]; rfl
    have e : setS S = S := by
      unfold setS
      rw [if_neg (fun e => e.2 (by rw [hcu, td, hpe]))]
      unfold sett
      rw [hpe]
      cases hh : urg S 0 64 with
      | none => rfl
      | some x =>
        obtain ⟨tx, fx, px, _, _⟩ := hurg x hh
        dsimp only
        rw [if_neg hne, fx, hcu]
        exact if_pos (by show tx.p ≤ t.p; omega)
    rw [e]
    exact ⟨h.tu, c1, q1⟩

theorem TuM.tick {p : Int} {m i : Nat} {S : Sd} (h : TuM p m i S) (hm : 1 ≤ m) (hi : i ≤ 900) : TuB p m (i + 1) (ticS S) := by
  have hr := hd_range m (i / 4) hm
  have hne : S.c ≠ -1 := by rw [h.c]; omega
  obtain ⟨t, ft, tp, td, ta⟩ := sta_some (h.tu.o _ hr.1 hr.2)
  rw [← h.c] at ft
  have hcu : curT S = t := by unfold curT; rw [ft]; rfl
  have ts := h.tu.s _ t ft
  have e0 : ticS S = { speS S with lf := S.lf - 1 } := by
    unfold ticS
    dsimp only
    rw [(speS_rest S).2.2, if_neg (by rw [h.tu.t.lf]; omega)]
  have hT := h.tu.t.tic hi
  have ho : ∀ x, 10 ≤ x → x < 10 + (m : Int) → sta (ticS S).L x = some (p, 0, true) := fun x a b => by rw [sta_tic]; exact h.tu.o x a b
  by_cases h3 : i % 4 = 3
  · have s1 : t.s = 1 := by rw [ts, if_pos ⟨by omega, h.c⟩, h3]; rfl
    have e1 : speS S = back { S with L := upd S.L S.c (setSl 4) } gEnd := by
      rw [speS_eq, if_neg hne, hcu, if_pos s1]
      unfold yieS
      rw [if_neg hne]
    have hf' := fnd_upd1 S.L S.c (f := setSl 4) (fun _ => rfl)
    have hcu' : curT { S with L := upd S.L S.c (setSl 4) } = setSl 4 t := by
      unfold curT
      show (fnd (upd S.L S.c (setSl 4)) S.c).getD T0 = _
      rw [hf', if_pos rfl, ft]
      rfl
    have q' : (ticS S).q = uq S.q (ky 0 p) (gEnd S.c) := by
      rw [e0, e1]
      show uq S.q (ky (curT { S with L := upd S.L S.c (setSl 4) }).d (curT { S with L := upd S.L S.c (setSl 4) }).p) (gEnd (curT { S with L := upd S.L S.c (setSl 4) }).i) = _
      rw [hcu']
      show uq S.q (ky t.d t.p) (gEnd t.i) = _
      rw [td, tp, fnd_i' ft]
    have d4 : (i + 1) / 4 = i / 4 + 1 := by omega
    have m4 : (i + 1) % 4 = 0 := by omega
    refine ⟨⟨hT, ho, fun j hj hn => by rw [q', uq_other _ _ hn]; exact h.tu.z j hj hn, fun x tx fx => ?_⟩, ?_⟩
    · rw [if_neg (fun e => e.1 m4)]
      rw [e0, e1] at fx
      replace fx : fnd (upd S.L S.c (setSl 4)) x = some tx := fx
      rw [hf'] at fx
      by_cases e : x = S.c
      · rw [if_pos e, ft] at fx
        cases fx
        rfl
      · rw [if_neg e] at fx
        have := h.tu.s x tx fx
        rw [if_neg (fun q => e (by rw [q.2, h.c]))] at this
        exact this
    · rw [if_pos m4]
      refine ⟨by rw [e0, e1]; rfl, ?_⟩
      rw [q', uq_same, h.q, h.c, d4, ← rot_next m (i / 4) hm]
      rfl
  · have sne : ¬ t.s = 1 := by
      rw [ts]
      split <;> omega
    have e1 : speS S = { S with L := upd S.L S.c (setSl (t.s - 1)) } := by rw [speS_eq, if_neg hne, hcu, if_neg sne]
    have hf' := fnd_upd1 S.L S.c (f := setSl (t.s - 1)) (fun _ => rfl)
    have d4 : (i + 1) / 4 = i / 4 := by omega
    have m4 : (i + 1) % 4 = i % 4 + 1 := by omega
    have hq : (ticS S).q = S.q := by rw [e0, e1]
    have hc' : (ticS S).c = S.c := by rw [e0, e1]
    refine ⟨⟨hT, ho, fun j hj hn => by rw [hq]; exact h.tu.z j hj hn, fun x tx fx => ?_⟩, ?_⟩
    · rw [d4]
      rw [e0, e1] at fx
      replace fx : fnd (upd S.L S.c (setSl (t.s - 1))) x = some tx := fx
      rw [hf'] at fx
      by_cases e : x = S.c
      · rw [if_pos e, ft] at fx
        cases fx
        rw [if_pos ⟨by omega, by rw [e, h.c]⟩]
        show t.s - 1 = _
        rw [ts, m4]
        by_cases h0 : i % 4 = 0
        · rw [if_neg (fun q => q.1 h0), h0]; rfl
        · rw [if_pos ⟨h0, h.c⟩]; omega
      · rw [if_neg e] at fx
        have := h.tu.s x tx fx
        rw [if_neg (fun q => e (by rw [q.2, h.c]))] at this
        rw [if_neg (fun q => e (by rw [q.2, h.c]))]
        exact this
    · rw [if_neg (by omega), d4, hc', hq]
      exact ⟨h.c, h.q⟩

theorem AddA.turns {p : Int} {m : Nat} {S : Sd} (h : AddA p m S) (hm : 1 ≤ m) : TuB p m 0 S := by
  refine ⟨⟨h.t, fun x a b => sta_of (h.o x a b), fun j _ hn => h.z j hn, fun x t ft => ?_⟩, ?_⟩
  · rw [if_neg (fun q => q.1 rfl)]
    by_cases hb : x < 10 ∨ 10 + (m : Int) ≤ x
    · rw [h.n x hb] at ft; cases ft
    · rw [h.o x (by omega) (by omega)] at ft
      cases ft
      rfl
  · rw [if_pos rfl]
    exact ⟨h.c, by rw [h.q]; exact rot_ids m hm⟩

end Go.Proofs.Ytipfgenbfnkpfaa
