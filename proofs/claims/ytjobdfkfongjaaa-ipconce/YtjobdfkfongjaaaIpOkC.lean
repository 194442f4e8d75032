/-
  Receiving, signals, bindings and the calls that cancel many keep what IpOk says, over plain data. No program, no statement.
-/
import Derived.Test.YtjobdfkfongjaaaIpOkB
namespace Go.Proofs.Ytjobdfkfongjaaa
open Go.RowKit

/-! ### receiving -/
/-- A thread that waits nowhere waits nowhere behind Forget. -/
theorem for_0 {S : Ip} (h : Ok S) {t c : Int} (hw : waiB S t = false) (hc : calO S t = some c) : t ≠ c := by
  unfold calO at hc
  split at hc
  · obtain ⟨u, hu, h1, _⟩ := h.first hc
    intro e
    subst e
    have := (wai_iff h hu).1 hw
    omega
  · cases hc
theorem for_other {S : Ip} {t k : Int} (hk : ∀ c, calO S t = some c → k ≠ c) : fnd (forS S t).L k = fnd S.L k := by
  unfold forS
  cases hc : calO S t with
  | none => rfl
  | some c =>
    have hne := hk c hc
    show fnd (upd (upd S.L c (setP 0 (-1))) c (setP 4 (-1))) k = _
    rw [fnd_upd1 _ c (f := setP 4 (-1)) (fun _ => rfl), if_neg hne, fnd_upd1 S.L c (f := setP 0 (-1)) (fun _ => rfl), if_neg hne]
theorem for_thrT {S : Ip} (h : Ok S) {t : Int} (hw : waiB S t = false) : thrT (forS S t) t = thrT S t := by
  unfold thrT
  rw [for_other fun c hc => for_0 h hw hc]
theorem recA_thrT {S : Ip} (h : Ok S) {t : Int} (hw : waiB S t = false) : thrT (recA S t) t = thrT S t := by
  have : fnd (recA S t).L t = some (thrT (forS S t) t) := thr_at _ _
  rw [← for_thrT h hw]
  show (fnd (recA S t).L t).getD _ = _
  rw [this]
  rfl
theorem recA_at {S : Ip} (h : Ok S) {t : Int} (hw : waiB S t = false) : fnd (recA S t).L t = some (thrT S t) := by
  have : fnd (recA S t).L t = some (thrT (forS S t) t) := thr_at _ _
  rw [this, for_thrT h hw]
theorem ok_recA {S : Ip} (h : Ok S) {t : Int} (ht : numB t = true) : Ok (recA S t) := ok_thr (ok_for h t) ht

theorem ok_hea {S : Ip} (h : Ok S) {t s : Int} (ht : numB t = true) {u : Th} (hu : fnd S.L s = some u) : Ok (heaS S t s) := by
  have es : thrT S s = u := by unfold thrT; rw [hu]; rfl
  have hm := (h.ms s u hu).1
  have hk := ok_del (ok_lea h hu) t (m := (thrT S s).sd) (by rw [es]; exact hm)
  unfold heaS
  split
  · obtain ⟨v, hv, e1, _⟩ := del_at (t := t) (m := (thrT S s).sd) (lea_at hu)
    have := num_iff.1 ht
    exact ok_ent hk hv e1 (okP_an (by omega) (by omega)) (by omega)
  · exact hk

theorem rec_parts {S : Ip} {ep t : Int} (e : recE S ep t = 0) : numB ep = true ∧ numB t = true ∧ waiB S t = false := by
  unfold recE at e
  split at e
  · rename_i h
    simp only [Bool.and_eq_true] at h
    split at e
    · omega
    · rename_i hw
      exact ⟨h.1, h.2, by simpa using hw⟩
  · omega
theorem ok_rec {S : Ip} (h : Ok S) (ep t : Int) (block : Bool) : Ok (recS S ep t block) := by
  unfold recS
  split
  · rename_i e
    obtain ⟨h1, h2, h3⟩ := rec_parts e
    have hA := ok_recA h h2
    split
    · exact ok_lit hA _ t
    · cases hf : firO (recA S t) 2 ep with
      | none =>
        simp only
        split
        · exact ok_ent hA (recA_at h h3) (thrT_0 h h3) (okP_ep (Or.inr (Or.inl rfl)) h1) (by omega)
        · exact hA
      | some s =>
        obtain ⟨u, hu, _⟩ := hA.first hf
        exact ok_hea hA h2 hu
  · exact h

/-! ### signals and bindings -/
theorem lis_at {S : Ip} (h : Ok S) {n t : Int} (e : lisO S n = some t) : ∃ u, fnd S.L t = some u ∧ u.st ≠ 0 := by
  unfold lisO at e
  cases hf : firO S 5 n with
  | some x =>
    rw [hf] at e
    cases e
    obtain ⟨u, hu, h1, _⟩ := h.first hf
    exact ⟨u, hu, by omega⟩
  | none =>
    rw [hf] at e
    simp only at e
    cases hb : S.bd n with
    | none => rw [hb] at e; cases e
    | some x =>
      rw [hb] at e
      simp only at e
      split at e
      · rename_i h3
        cases e
        obtain ⟨u, hu, _⟩ := (h.bd n t).1 hb
        have : thrT S t = u := by unfold thrT; rw [hu]; rfl
        rw [this] at h3
        exact ⟨u, hu, by omega⟩
      · cases e
theorem or_nat {x y : Nat} (hx : x < 2 ^ 20) (hy : y < 2 ^ 20) : bits .or .i64 (x : Int) (y : Int) = ((x ||| y : Nat) : Int) := by
  have h1 : x ||| y < 2 ^ 20 := Nat.or_lt_two_pow hx hy
  have e : (BitVec.ofInt 64 (x : Int) ||| BitVec.ofInt 64 (y : Int)).toNat = x ||| y := by
    rw [BitVec.toNat_or, BitVec.ofInt_natCast, BitVec.ofInt_natCast, BitVec.toNat_ofNat, BitVec.toNat_ofNat, Nat.mod_eq_of_lt (by omega), Nat.mod_eq_of_lt (by omega)]
  show IntKind.i64.wrap ((BitVec.ofInt 64 (x : Int) ||| BitVec.ofInt 64 (y : Int)).toNat : Int) = _
  rw [e, IntKind.wrap_i64]
  omega
theorem or_mark {a b : Int} (ha : mrkB a = true) (hb : mrkB b = true) : mrkB (bits .or .i64 a b) = true := by
  simp only [mrkB, Bool.and_eq_true, decide_eq_true_eq] at ha hb
  obtain ⟨x, rfl⟩ := Int.eq_ofNat_of_zero_le ha.1
  obtain ⟨y, rfl⟩ := Int.eq_ofNat_of_zero_le hb.1
  have hx : x < 2 ^ 20 := by omega
  have hy : y < 2 ^ 20 := by omega
  have h1 : x ||| y < 2 ^ 20 := Nat.or_lt_two_pow hx hy
  rw [or_nat hx hy]
  simp only [mrkB, Bool.and_eq_true, decide_eq_true_eq]
  omega
theorem ok_sig {S : Ip} (h : Ok S) (n b : Int) : Ok (sigS S n b) := by
  unfold sigS
  split
  · rename_i e
    have hb : numB n = true ∧ mrkB b = true := by
      unfold sigE at e
      split at e
      · rename_i h; simpa using h
      · omega
    cases hl : lisO S n with
    | none =>
      refine ⟨h.gl, h.nd, h.mem, h.pl, h.nt, h.bd, fun k c hk => ?_, h.ms⟩
      simp only at hk
      split at hk
      · rename_i ek
        subst ek
        cases hk
        have hn := num_iff.1 hb.1
        refine ⟨hn.1, hn.2, or_mark ?_ hb.2⟩
        cases hx : S.lt k with
        | none => rfl
        | some y => exact (h.lt k y hx).2.2
      · exact h.lt k c hk
    | some t =>
      obtain ⟨u, hu, _⟩ := lis_at h hl
      exact ok_del (ok_lea h hu) t (may_bad hb.2)
  · exact h

/-- A thread bound, or its binding taken back. -/
theorem ok_nt {S : Ip} (h : Ok S) {k n : Int} {u : Th} (hu : fnd S.L k = some u) {f : Int → Option Int} (hn : n = -1 ∨ (0 ≤ n ∧ n < 1024)) (hf : ∀ j x, f j = some x ↔ (x = k ∧ j = n ∧ n ≠ -1) ∨ (x ≠ k ∧ S.bd j = some x)) : Ok { S with L := upd S.L k (setN n), bd := f } := by
  have hi : ∀ t, (setN n t).i = t.i := fun _ => rfl
  have F : ∀ x t, fnd (upd S.L k (setN n)) x = some t ↔ (x = k ∧ t = setN n u) ∨ (x ≠ k ∧ fnd S.L x = some t) := fun x t => by
    rw [fnd_upd1 _ _ hi]
    by_cases e : x = k
    · subst e
      rw [if_pos rfl, hu]
      simp [eq_comm]
    · simp [e]
  refine ⟨good_upd h.gl hi, h.nd, fun a b x => ?_, fun x t e => ?_, fun x t e => ?_, fun j x => ?_, h.lt, fun x t e => ?_⟩
  · show x ∈ S.q a b ↔ ∃ t, fnd (upd S.L k (setN n)) x = some t ∧ _
    simp only [F]
    rw [h.mem]
    constructor
    · rintro ⟨t, ht, r⟩
      by_cases e : x = k
      · subst e
        rw [hu] at ht
        cases ht
        exact ⟨_, Or.inl ⟨rfl, rfl⟩, r⟩
      · exact ⟨t, Or.inr ⟨e, ht⟩, r⟩
    · rintro ⟨t, ⟨rfl, rfl⟩ | ⟨_, ht⟩, r⟩
      · exact ⟨u, hu, r⟩
      · exact ⟨t, ht, r⟩
  · rcases (F x t).1 e with ⟨_, rfl⟩ | ⟨_, e⟩
    · exact h.pl k u hu
    · exact h.pl x t e
  · rcases (F x t).1 e with ⟨_, rfl⟩ | ⟨_, e⟩
    · exact hn
    · exact h.nt x t e
  · show f j = some x ↔ ∃ t, fnd (upd S.L k (setN n)) x = some t ∧ _
    simp only [F]
    rw [hf, h.bd]
    constructor
    · rintro (⟨rfl, rfl, r⟩ | ⟨e, t, ht, r⟩)
      · exact ⟨_, Or.inl ⟨rfl, rfl⟩, rfl, r⟩
      · exact ⟨t, Or.inr ⟨e, ht⟩, r⟩
    · rintro ⟨t, ⟨rfl, rfl⟩ | ⟨e, ht⟩, r1, r2⟩
      · have r1 : n = j := r1
        exact Or.inl ⟨rfl, r1.symm, by omega⟩
      · exact Or.inr ⟨e, t, ht, r1, r2⟩
  · rcases (F x t).1 e with ⟨_, rfl⟩ | ⟨_, e⟩
    · exact h.ms k u hu
    · exact h.ms x t e
theorem thr_bd (S : Ip) (t : Int) : (thrS S t).bd = S.bd := by unfold thrS; split <;> rfl
theorem thr_q (S : Ip) (t : Int) : (thrS S t).q = S.q := by unfold thrS; split <;> rfl
theorem thr_lt (S : Ip) (t : Int) : (thrS S t).lt = S.lt := by unfold thrS; split <;> rfl

theorem ok_bin {S : Ip} (h : Ok S) (n t : Int) : Ok (binS S n t) := by
  unfold binS
  split
  · rename_i hb
    have hb' : numB n = true ∧ numB t = true := by simpa using hb
    have hn := num_iff.1 hb'.1
    have hT := ok_thr h hb'.2
    split
    · rename_i e
      have hx : (S.bd n).isSome = false ∧ (thrT S t).nt = -1 := by
        unfold binE at e
        rw [if_pos hb] at e
        split at e
        · omega
        · rename_i hz
          simp at hz
          exact ⟨by simpa using hz.1, hz.2.1⟩
      have hno : S.bd n = none := by simpa using hx.1
      refine ok_nt hT (thr_at S t) (Or.inr hn) fun j x => ?_
      rw [thr_bd]
      split
      · rename_i ej
        subst ej
        rw [hno]
        constructor
        · intro e; cases e; exact Or.inl ⟨rfl, rfl, by omega⟩
        · rintro (⟨rfl, _⟩ | ⟨_, e⟩)
          · rfl
          · cases e
      · rename_i ej
        constructor
        · intro eb
          refine Or.inr ⟨fun ex => ?_, eb⟩
          subst ex
          have e' : (thrS S x).bd j = some x := by rw [thr_bd]; exact eb
          obtain ⟨v, hv, r1, r2⟩ := (hT.bd j x).1 e'
          rw [thr_at] at hv
          cases hv
          rw [hx.2] at r1
          exact r2 r1.symm
        · rintro (⟨_, e, _⟩ | ⟨_, e⟩)
          · exact absurd e ej
          · exact e
    · exact hT
  · exact h
theorem ok_unb {S : Ip} (h : Ok S) (t : Int) : Ok (unbS S t) := by
  unfold unbS
  split
  · rename_i hb
    have hT := ok_thr h hb
    split
    · rename_i e
      have hx : (thrT S t).nt ≠ -1 := by
        unfold unbE at e
        rw [if_pos hb] at e
        split at e
        · omega
        · assumption
      refine ok_nt hT (thr_at S t) (Or.inl rfl) fun j x => ?_
      rw [thr_bd]
      have key : S.bd (thrT S t).nt = some t := by
        rw [← thr_bd S t]
        exact (hT.bd _ t).2 ⟨_, thr_at S t, rfl, hx⟩
      split
      · rename_i ej
        subst ej
        rw [key]
        constructor
        · intro e; cases e
        · rintro (⟨_, _, e⟩ | ⟨e1, e⟩)
          · exact absurd rfl e
          · cases e; exact absurd rfl e1
      · rename_i ej
        constructor
        · intro eb
          refine Or.inr ⟨fun ex => ?_, eb⟩
          subst ex
          have e' : (thrS S x).bd j = some x := by rw [thr_bd]; exact eb
          obtain ⟨v, hv, r1, _⟩ := (hT.bd j x).1 e'
          rw [thr_at] at hv
          cases hv
          exact ej r1.symm
        · rintro (⟨_, _, e⟩ | ⟨_, e⟩)
          · exact absurd rfl e
          · exact e
    · exact hT
  · exact h

/-! ### those who leave together -/
/-- All of a list leave, one after another. -/
def leaL (S : Ip) : List Int → Ip
  | [] => S
  | x :: l => leaL (leaS S x) l
theorem lea_keeps {S : Ip} {k x : Int} {u : Th} (hu : fnd S.L x = some u) : ∃ v, fnd (leaS S k).L x = some v ∧ v.sd = u.sd ∧ v.i = u.i := by
  show ∃ v, fnd (upd S.L k (setP 0 (-1))) x = some v ∧ _
  rw [fnd_upd1 S.L k (f := setP 0 (-1)) (fun _ => rfl)]
  split
  · rename_i e
    subst e
    rw [hu]
    exact ⟨_, rfl, rfl, rfl⟩
  · exact ⟨u, hu, rfl, rfl⟩
theorem ok_leaL : ∀ (l : List Int) {S : Ip}, Ok S → (∀ x ∈ l, ∃ u, fnd S.L x = some u) → Ok (leaL S l)
  | [], _, h, _ => h
  | x :: l, S, h, hl => by
    obtain ⟨u, hu⟩ := hl x List.mem_cons_self
    refine ok_leaL l (ok_lea h hu) fun y hy => ?_
    obtain ⟨v, hv⟩ := hl y (List.mem_cons_of_mem _ hy)
    obtain ⟨v', h', _⟩ := lea_keeps (k := x) hv
    exact ⟨v', h'⟩
/-- Who goes at a badge. -/
def badB (S : Ip) (b x : Int) : Bool := (thrT S x).sd.b == b
def cbaL (S : Ip) (ep b : Int) : List Int := (S.q 2 ep).filter (badB S b)
def cbaS (S : Ip) (ep b : Int) : Ip := leaL S (cbaL S ep b)
def calL (S : Ip) (ep : Int) : List Int := S.q 2 ep ++ S.q 3 ep
def calS (S : Ip) (ep : Int) : Ip := leaL (leaL S (S.q 2 ep)) (S.q 3 ep)
theorem Ok.all {S : Ip} (h : Ok S) {s o : Int} : ∀ x ∈ S.q s o, ∃ u, fnd S.L x = some u := fun x hx => by
  obtain ⟨u, hu, _⟩ := (h.mem s o x).1 hx
  exact ⟨u, hu⟩
theorem ok_cba {S : Ip} (h : Ok S) (ep b : Int) : Ok (cbaS S ep b) := ok_leaL _ h fun x hx => h.all x (List.mem_filter.1 hx).1
theorem leaL_keeps : ∀ (l : List Int) {S : Ip} {x : Int} {u : Th}, fnd S.L x = some u → ∃ v, fnd (leaL S l).L x = some v ∧ v.sd = u.sd ∧ v.i = u.i
  | [], _, _, u, h => ⟨u, h, rfl, rfl⟩
  | y :: l, S, x, u, h => by
    obtain ⟨v, hv, e1, e2⟩ := lea_keeps (k := y) h
    obtain ⟨v', hv', e3, e4⟩ := leaL_keeps l hv
    exact ⟨v', hv', e3.trans e1, e4.trans e2⟩
theorem ok_cal {S : Ip} (h : Ok S) (ep : Int) : Ok (calS S ep) := by
  refine ok_leaL _ (ok_leaL _ h h.all) fun x hx => ?_
  obtain ⟨u, hu⟩ := h.all x hx
  obtain ⟨v, hv, _⟩ := leaL_keeps (S.q 2 ep) hu
  exact ⟨v, hv⟩

end Go.Proofs.Ytjobdfkfongjaaa
