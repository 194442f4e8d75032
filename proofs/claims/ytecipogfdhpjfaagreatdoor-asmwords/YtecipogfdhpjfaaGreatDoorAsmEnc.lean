/-
  The contracts of package asm's 'meant' and 'encode' over the translation: an item's word. No statement is proved here.
-/
import Derived.Test.YtecipogfdhpjfaaGreatDoorAsmLabs
namespace Go.Proofs.YtecipogfdhpjfaaGreatDoor
open Go.RowKit Go.Maps Go.WideMaps

/-- What a token means, by the labels; whether it means something. -/
def mvT (m : List UInt8 → Option Int) : Tok → Int
  | .sg _ => 0
  | .reg n => ((min n 4294967296 : Nat) : Int)
  | .num n => ((min n 4294967296 : Nat) : Int)
  | .nm s => (m s).getD 0
def moT (m : List UInt8 → Option Int) : Tok → Bool
  | .nm s => match m s with | some v => decide (v ≤ 65535) | none => false
  | _ => true

set_option maxRecDepth 100000 in
set_option maxHeartbeats 1600000 in
theorem meant_any (t : Tok) (bk k : Nat) (D : DataW Unit) (m : List UInt8 → Option Int) (w : World) (hown : w.ownsMap Tryz.prog 9 (plainElem Tryz.prog 3) bk k D) (hmp : Mp D m) (hlen : ∀ s, t = .nm s → s.length ≤ 4000) :
    Calls Tryz.prog 44 #[tval t, .map (some bk)] w fun e w' => (∃ c, e = .returned (.tuple #[.int .i64 c, .bool (moT m t)]) ∧ (moT m t = true → c = mvT m t)) ∧ w' = w := by
  cases t with
  | sg c =>
    have t1 := ta_nr 121 (by decide)
    have t2 := ta_nu 121 (by decide)
    have t3 := ta_na 121 (by decide)
    simp only [tval]
    clear hown hmp hlen
    go_enter Tryz.func44, Tryz.ntmps44
    go_wp2
    go_ret2
    exact ⟨⟨_, rfl, fun _ => rfl⟩, rfl⟩
  | reg n =>
    have t1 := ta_rr
    simp only [tval, mvT]
    generalize ((min n 4294967296 : Nat) : Int) = c
    clear hown hmp hlen
    go_enter Tryz.func44, Tryz.ntmps44
    go_wp2
    go_ret2
    exact ⟨⟨_, rfl, fun _ => rfl⟩, rfl⟩
  | num n =>
    have t1 := ta_uu
    have t2 := ta_nr 127 (by decide)
    simp only [tval, mvT]
    generalize ((min n 4294967296 : Nat) : Int) = c
    clear hown hmp hlen
    go_enter Tryz.func44, Tryz.ntmps44
    go_wp2
    go_ret2
    exact ⟨⟨_, rfl, fun _ => rfl⟩, rfl⟩
  | nm s =>
    have t1 := ta_nn
    have t2 := ta_nr 123 (by decide)
    have t3 := ta_nu 123 (by decide)
    have hl := hlen s rfl
    have hkey : keyOf Tryz.prog 9 (.string ⟨s.toArray⟩) = some (.string s) := keyOf_string_mk Tryz.underlying9 (s := ⟨s.toArray⟩) (by rw [Lib.size_eq]; simp only [maxLen]; omega)
    obtain ⟨g1, g2⟩ := hmp.2 s
    simp only [tval]
    generalize (⟨s.toArray⟩ : ByteArray) = sb at hkey ⊢
    cases hm : m s with
    | none =>
      have HH : Hid (Maps.has D (.string s) = false) := by show _ = _; rw [g1, hm]; rfl
      have HMO : Hid (moT m (.nm s) = false) := by show _ = _; simp [moT, hm]
      clear g1 g2 hm hlen hl hmp
      go_enter Tryz.func44, Tryz.ntmps44
      go_wp2_with (first | (at_lookup; refine wpList_lookup_own_ok_int _ rfl _ _ 35 rfl 9 3 .i64 law9 Tryz.underlying35 Tryz.underlying3 (zeroI _) bk k D rfl (by exact hown) _ _ rfl hkey ?_; intro cc hat hwc; rw [HH.out]))
      go_ret2
      exact ⟨⟨_, by rw [HMO.out]; rfl, fun h => by rw [HMO.out] at h; cases h⟩, rfl⟩
    | some v =>
      have HH : Hid (Maps.has D (.string s) = true) := by show _ = _; rw [g1, hm]; rfl
      have HV : Hid (D.atKey (.string s) (.lit (.int .i64 0)) = .lit (.int .i64 v)) := g2 v hm
      have HMO : Hid (moT m (.nm s) = decide (v ≤ 65535) ∧ mvT m (.nm s) = v) := ⟨by simp [moT, hm], by simp [mvT, hm]⟩
      clear g1 g2 hm hlen hl hmp
      go_enter Tryz.func44, Tryz.ntmps44
      go_wp2_with (first | (at_lookup; refine wpList_lookup_own_ok_int _ rfl _ _ 35 rfl 9 3 .i64 law9 Tryz.underlying35 Tryz.underlying3 (zeroI _) bk k D rfl (by exact hown) _ _ rfl hkey ?_; intro cc hat hwc; rw [HH.out]; obtain rfl : cc = v := (by have := hat.symm.trans HV.out; simpa using this)))
      go_ret2
      exact ⟨⟨_, by rw [HMO.out.1]; rfl, fun _ => HMO.out.2.symm⟩, rfl⟩

end Go.Proofs.YtecipogfdhpjfaaGreatDoor
