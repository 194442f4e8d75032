/-
  The walk of the law CspaceDeeper over the translation: it answers true. No statement is proved here.
-/
import Derived.Test.YtibdkadojoeopaaCsAwakeB
import Derived.Test.YtibdkadojoeopaaCsOpen
namespace Go.Proofs.Ytibdkadojoeopaa
open Go.RowKit Go.Maps Go.WideMaps

theorem bitV_deep {X X' m l n : Nat} (h : X' / 2 ^ m = X % 2 ^ (32 - m)) (hm : m ≤ 16) (hl : l + n ≤ 16) : bitV X' (l + m) n = bitV X l n := by
  unfold bitV
  have e1 : X' / 2 ^ (l + m) = X' / 2 ^ m / 2 ^ l := by rw [Nat.div_div_eq_div_mul, ← Nat.pow_add, Nat.add_comm m l]
  rw [e1, h]
  have e2 : 2 ^ (32 - m) = 2 ^ l * 2 ^ (32 - m - l) := by rw [← Nat.pow_add]; congr 1; omega
  rw [e2, Nat.mod_mul_right_div_self]
  have e3 : 2 ^ (32 - m - l) = 2 ^ n * 2 ^ (32 - m - l - n) := by rw [← Nat.pow_add]; congr 1; omega
  rw [e3, Nat.mod_mul_right_mod]

theorem resF_deep {L : List Nd} (gd : GoodL L) {X X' m : Nat} (h : X' / 2 ^ m = X % 2 ^ (32 - m)) (hm : m ≤ 16) : ∀ (f : Nat) (c : K) (l : Nat), rightC c = true → c.k = 2 → l + m ≤ 16 → (resF L f c X l).e = 0 → (getC L (resF L f c X l).at').k ≠ 2 → resF L f c X' (l + m) = ⟨(resF L f c X l).at', (resF L f c X l).left + m, 0⟩ := by
  intro f
  induction f with
  | zero => intro c l _ _ _ h0; cases h0
  | succ f ih =>
    intro c l hc hk hl h0 h1
    by_cases hE : stepE L c X l = 0
    · obtain ⟨e1, e2, e3, e4⟩ := stepE_zero hE
      have eL : stepL c (l + m) = stepL c l + m := by unfold stepL; omega
      have eA : stepA c X' (l + m) = stepA c X l := by
        unfold stepA
        rw [eL, bitV_deep h hm (by unfold stepL; omega)]
      have eE : stepE L c X' (l + m) = 0 := by
        unfold stepE
        rw [if_neg (by omega), show l + m - c.n.toNat = l - c.n.toNat + m by omega, bitV_deep h hm (by omega), if_neg (by simpa using e2), if_neg (by omega), if_neg (by simpa using e4)]
      by_cases h2 : stepL c l = 0 ∨ (getC L (stepA c X l)).k ≠ 2
      · rw [resF_end hE h2] at h1 ⊢
        rw [resF_end eE (Or.inr (by rw [eA]; exact h1)), eA, eL]
        simp
      · rw [resF_go hE h2] at h0 h1 ⊢
        have h2' : ¬ (stepL c (l + m) = 0 ∨ (getC L (stepA c X' (l + m))).k ≠ 2) := by
          rw [eA, eL]
          rintro (h | h)
          · exact h2 (Or.inl (by omega))
          · exact h2 (Or.inr h)
        rw [resF_go eE h2', eA, eL]
        exact ih _ _ (right_get gd _) (Decidable.byContradiction fun hh => h2 (Or.inr hh)) (by unfold stepL; omega) h0 h1
    · rw [resF_bad rfl hE] at h0
      exact absurd h0 hE

theorem resF_full {L : List Nd} {X : Nat} : ∀ (f : Nat) (c : K) (l : Nat), (resF L f c X l).e = 0 → (getC L (resF L f c X l).at').k = 2 → (resF L f c X l).left = 0 := by
  intro f
  induction f with
  | zero => intro c l h0; cases h0
  | succ f ih =>
    intro c l h0 h1
    by_cases hE : stepE L c X l = 0
    · by_cases h2 : stepL c l = 0 ∨ (getC L (stepA c X l)).k ≠ 2
      · rw [resF_end hE h2] at h1 ⊢
        rcases h2 with h2 | h2
        · show ((stepL c l : Nat) : Int) = 0
          omega
        · exact absurd h1 h2
      · rw [resF_go hE h2] at h0 h1 ⊢
        exact ih _ _ h0 h1
    · rw [resF_bad rfl hE] at h0
      exact absurd h0 hE

/-- What an address means with more bits behind it. -/
theorem deeper_pure {L : List Nd} (gd : GoodL L) {c : K} {X X' m : Nat} {dp : Int} (h : X' / 2 ^ m = X % 2 ^ (32 - m)) (hm : 1 ≤ m ∧ m ≤ 15) (hd : dp + m ≤ 16) (h0 : (resR L c X dp).e = 0) :
    ((getC L (resR L c X dp).at').k = 2 → (resR L c X dp).left = 0) ∧ ((getC L (resR L c X dp).at').k ≠ 2 → resR L c X' (dp + m) = ⟨(resR L c X dp).at', (resR L c X dp).left + m, 0⟩) := by
  unfold resR at h0 ⊢
  split at h0
  · rename_i hk
    obtain ⟨h1, h2⟩ := Bool.and_eq_true_iff.mp hk
    rw [if_pos hk, if_pos hk]
    split at h0
    · rename_i hd1
      rw [if_pos hd1, if_pos (by omega)]
      refine ⟨resF_full _ _ _ h0, fun hh => ?_⟩
      rw [show (dp + (m : Int)).toNat = dp.toNat + m by omega]
      exact resF_deep gd h (by omega) 16 c dp.toNat h2 (by simpa using h1) (by omega) h0 hh
    · cases h0
  · cases h0

theorem resF_left {L : List Nd} {X : Nat} : ∀ (f : Nat) (c : K) (l : Nat), (resF L f c X l).e = 0 → (resF L f c X l).left ≤ l := by
  intro f
  induction f with
  | zero => intro c l h0; cases h0
  | succ f ih =>
    intro c l h0
    by_cases hE : stepE L c X l = 0
    · by_cases h2 : stepL c l = 0 ∨ (getC L (stepA c X l)).k ≠ 2
      · rw [resF_end hE h2]
        show ((stepL c l : Nat) : Int) ≤ l
        unfold stepL
        omega
      · rw [resF_go hE h2] at h0 ⊢
        have := ih _ _ h0
        have : stepL c l ≤ l := by unfold stepL; omega
        omega
    · rw [resF_bad rfl hE] at h0
      exact absurd h0 hE

theorem resR_left {L : List Nd} {c : K} {X : Nat} {dp : Int} (h0 : (resR L c X dp).e = 0) : (1 ≤ dp ∧ dp ≤ 16) ∧ (resR L c X dp).left ≤ 16 := by
  unfold resR at h0 ⊢
  split at h0
  · rename_i hk
    rw [if_pos hk]
    split at h0
    · rename_i hd
      rw [if_pos hd]
      have := resF_left _ _ _ h0
      exact ⟨hd, by omega⟩
    · cases h0
  · cases h0

theorem or_toNat (a b : Nat) (ha : a < 4294967296) (hb : b < 4294967296) : bits .or .u32 (a : Int) (b : Int) = ((a ||| b : Nat) : Int) := by
  have e2 : (BitVec.ofInt 32 (a : Int) ||| BitVec.ofInt 32 (b : Int)).toNat = a ||| b := by
    rw [BitVec.ofInt_natCast, BitVec.ofInt_natCast, BitVec.toNat_or, BitVec.toNat_ofNat, BitVec.toNat_ofNat, Nat.mod_eq_of_lt (by omega), Nat.mod_eq_of_lt (by omega)]
  show IntKind.u32.wrap ((BitVec.ofInt 32 (a : Int) ||| BitVec.ofInt 32 (b : Int)).toNat : Int) = _
  rw [e2, IntKind.wrap_u32]
  have : a ||| b < 2 ^ 32 := Nat.or_lt_two_pow (n := 32) (by omega) (by omega)
  omega

theorem and_mask32 (a m : Nat) (ha : a < 4294967296) (hm : m ≤ 16) : bits .and .u32 (a : Int) (IntKind.u32.wrap (IntKind.u32.wrap (2 ^ m) - 1)) = ((a % 2 ^ m : Nat) : Int) := by
  have h1 : 2 ^ m ≤ 65536 := Nat.pow_le_pow_right (n := 2) (by omega) hm
  have h0 : 0 < 2 ^ m := Nat.two_pow_pos m
  have eN : ((2 ^ m : Nat) : Int) = (2 : Int) ^ m := by push_cast; rfl
  have e : IntKind.u32.wrap (IntKind.u32.wrap (2 ^ m) - 1) = ((2 ^ m - 1 : Nat) : Int) := by
    rw [← eN, IntKind.wrap_u32, IntKind.wrap_u32]
    generalize (2 ^ m : Nat) = N at *
    omega
  rw [e]
  have e2 : (BitVec.ofInt 32 (a : Int) &&& BitVec.ofInt 32 ((2 ^ m - 1 : Nat) : Int)).toNat = a % 2 ^ m := by
    rw [BitVec.ofInt_natCast, BitVec.ofInt_natCast, BitVec.toNat_and, BitVec.toNat_ofNat, BitVec.toNat_ofNat, Nat.mod_eq_of_lt (by omega), Nat.mod_eq_of_lt (by generalize (2 ^ m : Nat) = N at *; omega), Nat.and_two_pow_sub_one_eq_mod]
  show IntKind.u32.wrap ((BitVec.ofInt 32 (a : Int) &&& BitVec.ofInt 32 ((2 ^ m - 1 : Nat) : Int)).toNat : Int) = _
  rw [e2]
  have h2 : a % 2 ^ m < 65536 := Nat.lt_of_lt_of_le (Nat.mod_lt _ h0) h1
  generalize a % 2 ^ m = z at *
  rw [IntKind.wrap_u32]
  omega

theorem deep_word (X T m : Nat) (hT : T < 4294967296) (hm : m ≤ 15) : ∃ X' : Nat, bits .or .u32 (IntKind.u32.wrap ((X : Int) * 2 ^ m)) (bits .and .u32 (T : Int) (IntKind.u32.wrap (IntKind.u32.wrap (2 ^ m) - 1))) = (X' : Int) ∧ X' < 4294967296 ∧ X' / 2 ^ m = X % 2 ^ (32 - m) := by
  have h0 : 0 < 2 ^ m := Nat.two_pow_pos m
  have e1 : IntKind.u32.wrap ((X : Int) * 2 ^ m) = ((X * 2 ^ m % 4294967296 : Nat) : Int) := by
    have eN : ((2 ^ m : Nat) : Int) = (2 : Int) ^ m := Int.natCast_pow 2 m
    rw [IntKind.wrap_u32, ← eN, ← Int.natCast_mul]
    generalize X * 2 ^ m = Y
    omega
  have hm16 : T % 2 ^ m < 4294967296 := Nat.lt_of_le_of_lt (Nat.mod_le _ _) hT
  rw [e1, and_mask32 T m hT (by omega), or_toNat _ _ (Nat.mod_lt _ (by omega)) hm16]
  refine ⟨_, rfl, Nat.or_lt_two_pow (n := 32) (Nat.mod_lt _ (by omega)) hm16, ?_⟩
  rw [← Nat.shiftRight_eq_div_pow, Nat.shiftRight_or_distrib, Nat.shiftRight_eq_div_pow, Nat.shiftRight_eq_div_pow]
  have e2 : (4294967296 : Nat) = 2 ^ (32 - m) * 2 ^ m := by rw [← Nat.pow_add, show 32 - m + m = 32 by omega]
  rw [e2, Nat.mul_mod_mul_right, Nat.mul_div_cancel _ h0, Nat.div_eq_of_lt (Nat.mod_lt _ h0), Nat.or_zero]


/-- Nothing old has turned: by the way the walk's world is built. -/
syntax "deep_fr" : tactic
macro_rules | `(tactic| deep_fr) => `(tactic| (repeat' first | assumption | refine Fr.drew ?_ | refine Fr.alloc ?_ _ | refine Fr.setCell ?_ (Or.inl (by first | exact Nat.le_refl _ | assumption | (simp; done) | (simp; omega) | omega)) _))

set_option maxRecDepth 100000 in
set_option maxHeartbeats 8000000 in
theorem deeper_any (a0 : Option Addr) (len cap : Nat) (kk o r b x g n : Int) (d : Bool) (X : Nat) (dp mo : Int) (T : Nat) (w : World) (hl : len ≤ 9223372036854775807) (hA : ∃ A, Acs w a0 len A) (hr : I64 r) (hX : X < 4294967296) (hT : T < 4294967296) :
    Calls Try.prog 5 #[.slice a0 len cap, .agg #[.int .i64 kk, .int .i64 o, .int .i64 r, .int .i64 b, .int .i64 x, .int .i64 g, .int .i64 n, .bool d], .int .u32 (X : Int), .int .i64 dp, .int .i64 mo, .int .u32 (T : Int)] w fun e w' => e = .returned (.bool true) ∧ Below w.heap.size w w' := by
  obtain ⟨A, hA⟩ := hA
  have fB := ((Fr.refl none' w).alloc (.cells #[.int .i64 kk, .int .i64 o, .int .i64 r, .int .i64 b, .int .i64 x, .int .i64 g, .int .i64 n, .bool d] 34))
  have rB := row_alloc w #[.int .i64 kk, .int .i64 o, .int .i64 r, .int .i64 b, .int .i64 x, .int .i64 g, .int .i64 n, .bool d] 34
  replace hA := hA.keep fB
  go_enter Try.func5, Try.ntmps5
  go_wp2_with fail
  generalize (w.alloc (.cells #[.int .i64 kk, .int .i64 o, .int .i64 r, .int .i64 b, .int .i64 x, .int .i64 g, .int .i64 n, .bool d] 34)) = v0 at *
  have HA : Hid (Acs v0 a0 len A) := hA
  have HF : Hid (Fr none' w v0) := fB
  have HrB : Hid (Row v0 w.heap.size #[.int .i64 kk, .int .i64 o, .int .i64 r, .int .i64 b, .int .i64 x, .int .i64 g, .int .i64 n, .bool d] 34) := rB
  clear hA fB rB
  refine (awake_any _).mono ?_
  rintro e w1 ⟨rfl, f0⟩
  go_wp2_with fail
  refine (new_any w1).mono ?_
  rintro e w2 ⟨p, rfl, h2, f1, n2⟩
  replace n2 : ∀ k, p.s [] k → v0.heap.size ≤ k := fun k hk => Nat.le_trans f0.size (n2 k hk)
  replace f0 := f0.trans f1
  have NB := newB_start f0 h2 n2
  clear h2 n2 f1 f0
  go_wp2_with fail
  obtain ⟨q, hq⟩ : ∃ q : Qb, q = ⟨w2.heap.size, .slice none 0 0, fun _ => 0⟩ := ⟨_, rfl⟩
  have hqb : w2.heap.size = q.b := by rw [hq]
  rw [← hq] at NB
  have HNB : Hid (NewB v0 (w2.alloc (.cells #[.slice none 0 0] 29)) p q []) := NB
  rw [hqb]
  clear NB hq
  generalize (w2.alloc (.cells #[.slice none 0 0] 29)) = v2 at *
  clear hqb
  go_loopw [16] (fun i wr => ∃ (k : Nat) (p' : Pb) (q' : Qb) (L : List Nd), k ≤ len ∧ k ≤ 100 ∧ i = .int .i64 k ∧ p'.b = p.b ∧ q'.b = q.b ∧ Hid (NewB v0 wr p' q' L)) (fun i _ => 100 - (intOf i).toNat)
  case atStart => exact ⟨0, p, q, [], by omega, by omega, rfl, rfl, rfl, HNB.out⟩
  case round =>
    clear HNB
    obtain ⟨k, p', q', L, hk, hk2, rfl, ep, eq, hB⟩ := hrel
    by_cases hlt : k < len ∧ k < 100
    · obtain ⟨b, o, rfl, ak, ok⟩ := (HA.out.keep hB.out.fr) k hlt.1
      have i1 : 0 ≤ (k : Int) ∧ (k : Int) < (len : Int) := by omega
      have uk1 : decide ((k : Int) < (len : Int)) = true := decide_eq_true (by omega)
      have uk2 : decide ((k : Int) < 100) = true := decide_eq_true (by omega)
      have c0 : wr.cell? ⟨b, o + k * 15, none⟩ = some (.int .i64 (A k).op) := ak 0 (by omega)
      have c1 : wr.cell? ⟨b, o + k * 15 + 1, none⟩ = some (.int .i64 (A k).id) := ak 1 (by omega)
      have c2 : wr.cell? ⟨b, o + k * 15 + 2, none⟩ = some (.int .i64 (A k).rx) := ak 2 (by omega)
      have c3 : wr.cell? ⟨b, o + k * 15 + 3, none⟩ = some (.int .i64 (A k).at'.n) := ak 3 (by omega)
      have c4 : wr.cell? ⟨b, o + k * 15 + 4, none⟩ = some (.int .i64 (A k).at'.i) := ak 4 (by omega)
      have c5 : wr.cell? ⟨b, o + k * 15 + 5, none⟩ = some (.int .i64 (A k).c.k) := ak 5 (by omega)
      have c6 : wr.cell? ⟨b, o + k * 15 + 6, none⟩ = some (.int .i64 (A k).c.o) := ak 6 (by omega)
      have c7 : wr.cell? ⟨b, o + k * 15 + 7, none⟩ = some (.int .i64 (A k).c.r) := ak 7 (by omega)
      have c8 : wr.cell? ⟨b, o + k * 15 + 8, none⟩ = some (.int .i64 (A k).c.b) := ak 8 (by omega)
      have c9 : wr.cell? ⟨b, o + k * 15 + 9, none⟩ = some (.int .i64 (A k).c.x) := ak 9 (by omega)
      have c10 : wr.cell? ⟨b, o + k * 15 + 10, none⟩ = some (.int .i64 (A k).c.g) := ak 10 (by omega)
      have c11 : wr.cell? ⟨b, o + k * 15 + 11, none⟩ = some (.int .i64 (A k).c.n) := ak 11 (by omega)
      have c12 : wr.cell? ⟨b, o + k * 15 + 12, none⟩ = some (.bool (A k).c.d) := ak 12 (by omega)
      have c13 : wr.cell? ⟨b, o + k * 15 + 13, none⟩ = some (.int .u32 ((A k).x : Int)) := ak 13 (by omega)
      have c14 : wr.cell? ⟨b, o + k * 15 + 14, none⟩ = some (.int .i64 (A k).dp) := ak 14 (by omega)
      have hD := does_any wr p' q' L hB.out.bo (A k) ok
      rw [ep, eq] at hD
      clear ok ak
      go_wp2_with fail
      refine hD.mono ?_
      rintro e w3 ⟨rfl, cg⟩
      obtain ⟨p3, q3, e3, e3', B3⟩ := hB.out.step cg
      have E3 : Hid (p3.b = p.b ∧ q3.b = q.b ∧ NewB v0 w3 p3 q3 (stepS L (A k))) := ⟨e3.trans ep, e3'.trans eq, B3⟩
      clear c0 c1 c2 c3 c4 c5 c6 c7 c8 c9 c10 c11 c12 c13 c14 hD cg hB ep eq e3 e3' B3
      go_wp2_with fail
      go_roundw
      case rel => exact ⟨k + 1, p3, q3, _, by omega, by omega, by go_num, E3.out.1, E3.out.2.1, E3.out.2.2⟩
      case measure => simp [intOf]; omega
    · have hc : (decide ((k : Int) < (len : Int)) = false ∧ decide (k < len) = false) ∨ (decide ((k : Int) < (len : Int)) = true ∧ decide ((k : Int) < 100) = false ∧ decide (k < len) = true ∧ decide (k < 100) = false ∧ decide ((100 : Int) < (len : Int)) = true ∧ k = 100) := by
        by_cases h1 : k < len
        · exact Or.inr ⟨decide_eq_true (by omega), decide_eq_false (by omega), decide_eq_true (by omega), decide_eq_false (by omega), decide_eq_true (by omega), by omega⟩
        · exact Or.inl ⟨decide_eq_false (by omega), decide_eq_false (by omega)⟩
      have HE : Hid (p'.b = p.b ∧ q'.b = q.b) := ⟨ep, eq⟩
      clear hlt HA ep eq
      rcases hc with ⟨uk1, uk3⟩ | ⟨uk1, uk2, uk3, uk4, uk5, rfl⟩
      all_goals
        have hR := resolve_any wr p' L hB.out.bo.pr (K.mk kk o r b x g n d) hr X hX dp
        have HIn := @resR_in L hB.out.bo.pr.good (K.mk kk o r b x g n d) X dp
        have HGd : Hid (GoodL L) := hB.out.bo.pr.good
        rw [HE.out.1] at hR
        have rB := HrB.out.keep hB.out.fr (fun h => h)
        obtain ⟨k0, k1, k2, k3, k4, k5, k6, k7⟩ := cbox_cells rB
        have HPu : Hid (∀ (X' m : Nat), X' / 2 ^ m = X % 2 ^ (32 - m) → 1 ≤ m ∧ m ≤ 15 → dp + m ≤ 16 → (resR L (K.mk kk o r b x g n d) X dp).e = 0 → ((getC L (resR L (K.mk kk o r b x g n d) X dp).at').k = 2 → (resR L (K.mk kk o r b x g n d) X dp).left = 0) ∧ ((getC L (resR L (K.mk kk o r b x g n d) X dp).at').k ≠ 2 → resR L (K.mk kk o r b x g n d) X' (dp + m) = ⟨(resR L (K.mk kk o r b x g n d) X dp).at', (resR L (K.mk kk o r b x g n d) X dp).left + m, 0⟩)) := fun X' m h1 h2 h3 h4 => deeper_pure HGd.out h1 h2 h3 h4
        have HDp : Hid ((resR L (K.mk kk o r b x g n d) X dp).e = 0 → (1 ≤ dp ∧ dp ≤ 16) ∧ (resR L (K.mk kk o r b x g n d) X dp).left ≤ 16) := fun h0 => resR_left h0
        generalize resR L (K.mk kk o r b x g n d) X dp = R at *
        obtain ⟨⟨Rn, Ri⟩, Rl, Re⟩ := R
        dsimp only at HIn
        have HLf : Hid (Re = 0 → Rl ≤ 16) := fun h => (HDp.out h).2
        have HIn' : Hid (Re = 0 → getE L ⟨Rn, Ri⟩ = 0 ∧ 0 ≤ Rl ∧ I64 Rn) := HIn
        clear HIn
        replace hR : Calls Try.prog 17 #[.pointer (some ⟨p.b, 0, none⟩), .agg #[.int .i64 kk, .int .i64 o, .int .i64 r, .int .i64 b, .int .i64 x, .int .i64 g, .int .i64 n, .bool d], .int .u32 (X : Int), .int .i64 dp] wr fun e w' => e = .returned (.tuple #[.agg #[.int .i64 Rn, .int .i64 Ri], .int .i64 Rl, .int .i64 Re]) ∧ Fr none' wr w' := hR
        go_wp2_with fail
        refine hR.mono ?_
        rintro e w3 ⟨rfl, f3⟩
        clear k0 k1 k2 k3 k4 k5 k6 k7 hR
        have f4 := f3.alloc (.cells #[.int .i64 Rn, .int .i64 Ri] 32)
        have r17 := row_alloc w3 #[.int .i64 Rn, .int .i64 Ri] 32
        have B4 := hB.out.keep0 f4
        replace rB := rB.keep f4 (fun h => h)
        have HFr : Hid (Fr none' w (w3.alloc (.cells #[.int .i64 Rn, .int .i64 Ri] 32))) := HF.out.trans B4.fr
        clear f3 f4 hB
        by_cases hE : Re = 0
        · have t1 : (Re != 0) = false := by simpa using hE
          obtain ⟨hg0, hl0, hI0⟩ := HIn'.out hE
          obtain ⟨⟨hd1, hd2⟩, _⟩ := HDp.out hE
          by_cases hm : 1 ≤ mo ∧ mo ≤ 15
          · have t2 : decide (mo < 1) = false := by simp; omega
            have t3 : decide (15 < mo) = false := by simp; omega
            by_cases hs : dp + mo ≤ 16
            · have t4 : decide (16 < dp + mo) = false := by simp; omega
              have hw : IntKind.i64.wrap (dp + mo) = dp + mo := by rw [IntKind.wrap_i64]; omega
              have hw2 : wrap64 (dp + mo) = dp + mo := by unfold wrap64; omega
              have hG := get_any _ p' L B4.bo.pr ⟨Rn, Ri⟩ hI0
              rw [HE.out.1, hg0] at hG
              obtain ⟨m, rfl⟩ := Int.eq_ofNat_of_zero_le (show 0 ≤ mo by omega)
              have HPm := fun X' hX' => HPu.out X' m hX' (by omega) (by omega) hE
              have hm15 : m ≤ 15 := by omega
              generalize getC L ⟨Rn, Ri⟩ = C at *
              obtain ⟨Ck, Co, Cr, Cb, Cx, Cg, Cn, Cd⟩ := C
              replace hG : Calls Try.prog 20 #[.pointer (some ⟨p.b, 0, none⟩), .agg #[.int .i64 Rn, .int .i64 Ri]] (w3.alloc (.cells #[.int .i64 Rn, .int .i64 Ri] 32)) fun e w' => e = .returned (.tuple #[.agg #[.int .i64 Ck, .int .i64 Co, .int .i64 Cr, .int .i64 Cb, .int .i64 Cx, .int .i64 Cg, .int .i64 Cn, .bool Cd], .int .i64 0]) ∧ Fr none' (w3.alloc (.cells #[.int .i64 Rn, .int .i64 Ri] 32)) w' := hG
              obtain ⟨s0, s1, _, _⟩ := pair_cells r17
              go_wp2_with fail
              refine hG.mono ?_
              rintro e w5 ⟨rfl, f5⟩
              clear s0 s1 hG
              have f6 := f5.alloc (.cells #[.int .i64 Ck, .int .i64 Co, .int .i64 Cr, .int .i64 Cb, .int .i64 Cx, .int .i64 Cg, .int .i64 Cn, .bool Cd] 34)
              have r20 := row_alloc w5 (cbox Ck Co Cr Cb Cx Cg Cn Cd) 34
              replace B4 := B4.keep0 f6
              replace rB := rB.keep f6 (fun h => h)
              replace r17 := r17.keep f6 (fun h => h)
              clear f5 f6 HFr
              unfold cbox at r20
              obtain ⟨X', hXe, hX'l, hXd⟩ := deep_word X T m hT hm15
              have hX2 := fun w' (f : Fr none' _ w') => resolve_any w' p' L (B4.bo.pr.keep0 f) (K.mk kk o r b x g n d) hr X' hX'l (dp + m)
              rw [HE.out.1] at hX2
              obtain ⟨hp1, hp2⟩ := HPm X' hXd
              have HFr : Hid (Fr none' w (w5.alloc (.cells #[.int .i64 Ck, .int .i64 Co, .int .i64 Cr, .int .i64 Cb, .int .i64 Cx, .int .i64 Cg, .int .i64 Cn, .bool Cd] 34))) := HF.out.trans B4.fr
              have hRb := (HLf.out hE)
              have hw3 : IntKind.i64.wrap (Rl + (m : Int)) = Rl + (m : Int) := by rw [IntKind.wrap_i64]; omega
              have hw4 : wrap64 (Rl + (m : Int)) = Rl + (m : Int) := by unfold wrap64; omega
              have hfC : Fr none' (w5.alloc (.cells #[.int .i64 Ck, .int .i64 Co, .int .i64 Cr, .int .i64 Cb, .int .i64 Cx, .int .i64 Cg, .int .i64 Cn, .bool Cd] 34)) (w5.alloc (.cells #[.int .i64 Ck, .int .i64 Co, .int .i64 Cr, .int .i64 Cb, .int .i64 Cx, .int .i64 Cg, .int .i64 Cn, .bool Cd] 34)).drew := (Fr.refl none' _).drew
              have hfD : Fr none' (w5.alloc (.cells #[.int .i64 Ck, .int .i64 Co, .int .i64 Cr, .int .i64 Cb, .int .i64 Cx, .int .i64 Cg, .int .i64 Cn, .bool Cd] 34)) ((w5.alloc (.cells #[.int .i64 Ck, .int .i64 Co, .int .i64 Cr, .int .i64 Cb, .int .i64 Cx, .int .i64 Cg, .int .i64 Cn, .bool Cd] 34)).alloc (.cells #[.int .i64 0, .int .i64 0] 32)).drew := ((Fr.refl none' _).alloc _).drew
              obtain ⟨k0, k1, k2, k3, k4, k5, k6, k7⟩ := cbox_cells rB
              obtain ⟨s0, s1, _, _⟩ := pair_cells r17
              obtain ⟨y0, y1, y2, y3, y4, y5, y6, y7⟩ := cbox_cells r20
              generalize resR L (K.mk kk o r b x g n d) X' (dp + m) = R2 at *
              obtain ⟨⟨Qn, Qi⟩, Ql, Qe⟩ := R2
              replace hX2 : ∀ w', Fr none' (w5.alloc (.cells #[.int .i64 Ck, .int .i64 Co, .int .i64 Cr, .int .i64 Cb, .int .i64 Cx, .int .i64 Cg, .int .i64 Cn, .bool Cd] 34)) w' → Calls Try.prog 17 #[.pointer (some ⟨p.b, 0, none⟩), .agg #[.int .i64 kk, .int .i64 o, .int .i64 r, .int .i64 b, .int .i64 x, .int .i64 g, .int .i64 n, .bool d], .int .u32 (X' : Int), .int .i64 (dp + (m : Int))] w' fun e w2 => e = .returned (.tuple #[.agg #[.int .i64 Qn, .int .i64 Qi], .int .i64 Ql, .int .i64 Qe]) ∧ Fr none' w' w2 := hX2
              have hXC := hX2 _ hfC
              have hXD := hX2 _ hfD
              have HR17 : Hid (Row (w5.alloc (.cells #[.int .i64 Ck, .int .i64 Co, .int .i64 Cr, .int .i64 Cb, .int .i64 Cx, .int .i64 Cg, .int .i64 Cn, .bool Cd] 34)) w3.heap.size #[.int .i64 Rn, .int .i64 Ri] 32) := r17
              have HR20 : Hid (Row (w5.alloc (.cells #[.int .i64 Ck, .int .i64 Co, .int .i64 Cr, .int .i64 Cb, .int .i64 Cx, .int .i64 Cg, .int .i64 Cn, .bool Cd] 34)) w5.heap.size #[.int .i64 Ck, .int .i64 Co, .int .i64 Cr, .int .i64 Cb, .int .i64 Cx, .int .i64 Cg, .int .i64 Cn, .bool Cd] 34) := r20
              have HfC : Hid (Fr none' (w5.alloc (.cells #[.int .i64 Ck, .int .i64 Co, .int .i64 Cr, .int .i64 Cb, .int .i64 Cx, .int .i64 Cg, .int .i64 Cn, .bool Cd] 34)) (w5.alloc (.cells #[.int .i64 Ck, .int .i64 Co, .int .i64 Cr, .int .i64 Cb, .int .i64 Cx, .int .i64 Cg, .int .i64 Cn, .bool Cd] 34)).drew ∧ Fr none' (w5.alloc (.cells #[.int .i64 Ck, .int .i64 Co, .int .i64 Cr, .int .i64 Cb, .int .i64 Cx, .int .i64 Cg, .int .i64 Cn, .bool Cd] 34)) ((w5.alloc (.cells #[.int .i64 Ck, .int .i64 Co, .int .i64 Cr, .int .i64 Cb, .int .i64 Cx, .int .i64 Cg, .int .i64 Cn, .bool Cd] 34)).alloc (.cells #[.int .i64 0, .int .i64 0] 32)).drew) := ⟨hfC, hfD⟩
              have HK : Hid (∀ w', Fr none' (w5.alloc (.cells #[.int .i64 Ck, .int .i64 Co, .int .i64 Cr, .int .i64 Cb, .int .i64 Cx, .int .i64 Cg, .int .i64 Cn, .bool Cd] 34)) w' → w'.cell? ⟨w.heap.size, 0, none⟩ = some (.int .i64 kk) ∧ w'.cell? ⟨w.heap.size, 1, none⟩ = some (.int .i64 o) ∧ w'.cell? ⟨w.heap.size, 2, none⟩ = some (.int .i64 r) ∧ w'.cell? ⟨w.heap.size, 3, none⟩ = some (.int .i64 b) ∧ w'.cell? ⟨w.heap.size, 4, none⟩ = some (.int .i64 x) ∧ w'.cell? ⟨w.heap.size, 5, none⟩ = some (.int .i64 g) ∧ w'.cell? ⟨w.heap.size, 6, none⟩ = some (.int .i64 n) ∧ w'.cell? ⟨w.heap.size, 7, none⟩ = some (.bool d)) := fun w' f => cbox_cells (rB.keep f (fun h => h))
              clear hX2 hXd hX'l HPm B4 rB r17 r20 hfC hfD k0 k1 k2 k3 k4 k5 k6 k7 s0 s1 y0 y1 y2 y3 y4 y5 y6 y7
              go_wp2_with fail
              generalize (w5.alloc (.cells #[.int .i64 Ck, .int .i64 Co, .int .i64 Cr, .int .i64 Cb, .int .i64 Cx, .int .i64 Cg, .int .i64 Cn, .bool Cd] 34)) = v5 at *
              have G0 := Fr.refl none' v5
              go_region_held3 (fun w' => w'.cell? ⟨w.heap.size, 0, none⟩ = some (.int .i64 kk) ∧ w'.cell? ⟨w.heap.size, 1, none⟩ = some (.int .i64 o) ∧ w'.cell? ⟨w.heap.size, 2, none⟩ = some (.int .i64 r) ∧ w'.cell? ⟨w.heap.size, 3, none⟩ = some (.int .i64 b) ∧ w'.cell? ⟨w.heap.size, 4, none⟩ = some (.int .i64 x) ∧ w'.cell? ⟨w.heap.size, 5, none⟩ = some (.int .i64 g) ∧ w'.cell? ⟨w.heap.size, 6, none⟩ = some (.int .i64 n) ∧ w'.cell? ⟨w.heap.size, 7, none⟩ = some (.bool d)) ((refine HK.out _ ?_; first | exact G0 | exact G0.drew | exact G0.alloc _ | exact G0.drew.alloc _ | exact (G0.alloc _).drew | (deep_fr; done))) (first | (go_at_call 17; refine hXC.mono ?_; rintro e w7 ⟨rfl, f7⟩; replace G0 := HfC.out.1.trans f7; have ge := G0.size) | (go_at_call 17; refine hXD.mono ?_; rintro e w7 ⟨rfl, f7⟩; replace G0 := HfC.out.2.trans f7; have rz := ((row_alloc v5 #[.int .i64 0, .int .i64 0] 32).drew).keep f7 (fun h => h); have x0 := rz.cell 0; have x1 := rz.cell 1; have x2 := rz.frozen 0; have x3 := rz.frozen 1))
              all_goals first
                | (have fr8 := pair_fr (.int .i64 Qn) (.int .i64 Qi) G0 (Or.inl (Nat.le_refl _)); have r22 := pair_set rz (.int .i64 Qn) (.int .i64 Qi); clear rz x0 x1 x2 x3; unfold pput at fr8 r22; generalize ((w7.setCell ⟨v5.heap.size, 0, none⟩ (.int .i64 Qn)).setCell ⟨v5.heap.size, 1, none⟩ (.int .i64 Qi)) = w8 at fr8 r22 ⊢; generalize v5.heap.size = B8 at r22 ⊢)
                | (have fr8 := G0.alloc (.cells #[.int .i64 Qn, .int .i64 Qi] 32); have r22 := row_alloc w7 #[.int .i64 Qn, .int .i64 Qi] 32; generalize (w7.alloc (.cells #[.int .i64 Qn, .int .i64 Qi] 32)) = w8 at fr8 r22 ⊢; generalize w7.heap.size = B8 at r22 ⊢)
              all_goals
                have r17 := HR17.out.keep fr8 (fun h => h)
                have r20 := HR20.out.keep fr8 (fun h => h)
                obtain ⟨s0, s1, _, _⟩ := pair_cells r17
                obtain ⟨y0, y1, y2, y3, y4, y5, y6, y7⟩ := cbox_cells r20
                obtain ⟨b0, b1, _, _⟩ := pair_cells r22
                have HF8 : Hid (Fr none' w w8) := HFr.out.trans fr8
                clear r17 r20 r22 fr8 G0 hXC hXD
                by_cases hC2 : Ck = 2
                · have hRl := hp1 hC2
                  subst hC2 hRl
                  clear hp1 hp2
                  go_wp2_with fail
                  go_ret
                  exact ⟨rfl, HF8.out.below (Nat.le_refl _) (fun _ h => h.elim)⟩
                · have hq := hp2 hC2
                  have t5 : (Ck == 2) = false := by simpa using hC2
                  clear hp1 hp2
                  cases hq
                  have q1 := fun w => eq_ref Rn Ri Rn Ri w
                  rw [show eqR ⟨Rn, Ri⟩ ⟨Rn, Ri⟩ = true by simp [eqR]] at q1
                  go_wp2_with fail
                  go_ret
                  exact ⟨rfl, HF8.out.below (Nat.le_refl _) (fun _ h => h.elim)⟩
            · have t4 : decide (16 < dp + mo) = true := by simp; omega
              have hw : IntKind.i64.wrap (dp + mo) = dp + mo := by rw [IntKind.wrap_i64]; omega
              have hw2 : wrap64 (dp + mo) = dp + mo := by unfold wrap64; omega
              clear hs
              go_wp2_with fail
              go_ret
              exact ⟨rfl, HFr.out.below (Nat.le_refl _) (fun _ h => h.elim)⟩
          · by_cases hm1 : mo < 1
            · have t2 : decide (mo < 1) = true := decide_eq_true hm1
              clear hm hm1
              go_wp2_with fail
              go_ret
              exact ⟨rfl, HFr.out.below (Nat.le_refl _) (fun _ h => h.elim)⟩
            · have t2 : decide (mo < 1) = false := decide_eq_false hm1
              have t3 : decide (15 < mo) = true := by simp; omega
              clear hm hm1
              go_wp2_with fail
              go_ret
              exact ⟨rfl, HFr.out.below (Nat.le_refl _) (fun _ h => h.elim)⟩
        · have t1 : (Re != 0) = true := by simpa using hE
          go_wp2_with fail
          go_ret
          exact ⟨rfl, HFr.out.below (Nat.le_refl _) (fun _ h => h.elim)⟩

end Go.Proofs.Ytibdkadojoeopaa
