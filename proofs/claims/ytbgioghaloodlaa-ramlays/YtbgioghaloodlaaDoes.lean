/-
  The contract of 'does' (an act by both memories) over the translation: both answer the same, and both hold the same bytes afterwards. No statement is proved here.
-/
import Derived.Test.YtbgioghaloodlaaRefLay
namespace Go.Proofs.Ytbgioghaloodlaa
open Go.RowKit

/-- Both memories, with the same bytes, all four blocks from B on. -/
structure Twin (w : World) (B pm bm pr br nf : Nat) (bs : List UInt8) : Prop where
  ram : IsRam w pm bm nf bs
  ref : IsRef w pr br nf bs
  d1 : pm ≠ br
  d2 : pr ≠ bm
  d3 : bm ≠ br
  lo : B ≤ pm ∧ B ≤ bm ∧ B ≤ pr ∧ B ≤ br

def two (bm br : Nat) : Nat → Prop := fun k => k = bm ∨ k = br

theorem Twin.keep {S : Nat → Prop} {w w' : World} {B pm bm pr br nf : Nat} {bs : List UInt8} (h : Twin w B pm bm pr br nf bs) (f : Fr S w w') (h1 : ¬ S pm) (h2 : ¬ S bm) (h3 : ¬ S pr) (h4 : ¬ S br) : Twin w' B pm bm pr br nf bs :=
  ⟨h.ram.keep f h1 h2, h.ref.keep f h3 h4, h.d1, h.d2, h.d3, h.lo⟩

theorem Twin.keep0 {w w' : World} {B pm bm pr br nf : Nat} {bs : List UInt8} (h : Twin w B pm bm pr br nf bs) (f : Fr none' w w') : Twin w' B pm bm pr br nf bs :=
  h.keep f id id id id

/-- One act by each: first package ram's, then the document's. -/
theorem Twin.step {w w1 w2 : World} {B pm bm pr br nf : Nat} {bs bs' : List UInt8} (h : Twin w B pm bm pr br nf bs) (f1 : Fr (at' bm) w w1) (r1 : IsRam w1 pm bm nf bs') (f2 : Fr (at' br) w1 w2) (r2 : IsRef w2 pr br nf bs') :
    Twin w2 B pm bm pr br nf bs' ∧ Fr (two bm br) w w2 :=
  ⟨⟨r1.keep f2 h.d1 h.d3, r2, h.d1, h.d2, h.d3, h.lo⟩, (f1.mono fun _ _ e => Or.inl e).trans (f2.mono fun _ _ e => Or.inr e)⟩

theorem Twin.refAfter {w w1 : World} {B pm bm pr br nf : Nat} {bs : List UInt8} (h : Twin w B pm bm pr br nf bs) (f1 : Fr (at' bm) w w1) : IsRef w1 pr br nf bs :=
  h.ref.keep f1 h.d2 (Ne.symm h.d3)

theorem Bytes.keep {S : Nat → Prop} {w w' : World} {sp : Option Addr} {m c : Nat} {data : List UInt8} (h : Bytes w sp m c data) (f : Fr S w w') (hs : 0 < m → ∀ a, sp = some a → ¬ S a.block) : Bytes w' sp m c data :=
  ⟨h.len, fun hp => by
    obtain ⟨a, ha, hc⟩ := h.src hp
    refine ⟨a, ha, fun j hj => cell_keep f (hc j hj) ?_⟩
    have : (a.add j).block = a.block := by unfold Addr.add; split <;> rfl
    rw [this]; exact hs (by rw [← h.len]; exact hp) a ha, h.nil⟩

/-- An act as a value. -/
def actV (dO at_ size : Int) (v : Nat) (sp : Option Addr) (m c : Nat) : Value := .agg #[.int .i64 dO, .int .i64 at_, .int .i64 size, .int .u32 (v : Int), .slice sp m c]

/-- What 'does' comes to: true; both memories hold the same bytes. -/
def Done (w : World) (B pm bm pr br nf : Nat) (e : Ending) (w' : World) : Prop :=
  e = .returned (.bool true) ∧ Fr (two bm br) w w' ∧ ∃ bs', Twin w' B pm bm pr br nf bs'

def clearE (n : Int) (nf : Nat) : Int := if 0 ≤ n ∧ n < (nf : Int) then 0 else 10
def clearB (bs : List UInt8) (n : Int) (nf : Nat) : List UInt8 := if 0 ≤ n ∧ n < (nf : Int) then putAt bs (n.toNat * 64) (List.replicate 64 0) else bs

theorem clear_any (w : World) (p bf nf : Nat) (bs : List UInt8) (n : Int) (h : IsRam w p bf nf bs) :
    Calls Try.prog 20 #[.pointer (some ⟨p, 0, none⟩), .int .i64 n] w fun e w' => e = .returned (.int .i64 (clearE n nf)) ∧ Fr (at' bf) w w' ∧ IsRam w' p bf nf (clearB bs n nf) := by
  by_cases hn : 0 ≤ n ∧ n < (nf : Int)
  · obtain ⟨k, rfl⟩ := Int.eq_ofNat_of_zero_le hn.1
    rw [clearE, clearB, if_pos hn, if_pos hn, Int.toNat_natCast]
    exact clear_ok w p bf nf bs k h (by omega)
  · rw [clearE, clearB, if_neg hn, if_neg hn]
    refine (clear_bad w p bf nf bs n h hn).mono ?_
    rintro e w' ⟨rfl, rfl⟩
    exact ⟨rfl, Fr.refl _ _, h⟩

theorem rclear_any (w : World) (p bf nf : Nat) (bs : List UInt8) (n : Int) (h : IsRef w p bf nf bs) :
    Calls Try.prog 24 #[.pointer (some ⟨p, 0, none⟩), .int .i64 n] w fun e w' => e = .returned (.int .i64 (clearE n nf)) ∧ Fr (at' bf) w w' ∧ IsRef w' p bf nf (clearB bs n nf) := by
  by_cases hn : 0 ≤ n ∧ n < (nf : Int)
  · obtain ⟨k, rfl⟩ := Int.eq_ofNat_of_zero_le hn.1
    rw [clearE, clearB, if_pos hn, if_pos hn, Int.toNat_natCast]
    exact rclear_ok w p bf nf bs k h (by omega)
  · rw [clearE, clearB, if_neg hn, if_neg hn]
    refine (rclear_bad w p bf nf bs n h hn).mono ?_
    rintro e w' ⟨rfl, rfl⟩
    exact ⟨rfl, Fr.refl _ _, h⟩

def layE (n : Int) (m nf : Nat) : Int := if 0 ≤ n ∧ n < (nf : Int) then (if 64 < m then 2 else 0) else 10
def layB (bs : List UInt8) (n : Int) (m nf : Nat) (data : List UInt8) : List UInt8 := if 0 ≤ n ∧ n < (nf : Int) then (if 64 < m then bs else putAt bs (n.toNat * 64) data) else bs

theorem lay_any (w : World) (p bf nf : Nat) (bs : List UInt8) (n : Int) (h : IsRam w p bf nf bs) (sp : Option Addr) (m c : Nat) (data : List UInt8) (hl : data.length = m) (hs : Src w sp data) :
    Calls Try.prog 19 #[.pointer (some ⟨p, 0, none⟩), .int .i64 n, .slice sp m c] w fun e w' => e = .returned (.int .i64 (layE n m nf)) ∧ Fr (at' bf) w w' ∧ IsRam w' p bf nf (layB bs n m nf data) := by
  by_cases hn : 0 ≤ n ∧ n < (nf : Int)
  · obtain ⟨k, rfl⟩ := Int.eq_ofNat_of_zero_le hn.1
    rw [layE, layB, if_pos hn, if_pos hn, Int.toNat_natCast]
    by_cases hm : 64 < m
    · rw [if_pos hm, if_pos hm]
      refine (lay_long w p bf nf bs k h (by omega) sp m c hm).mono ?_
      rintro e w' ⟨rfl, rfl⟩
      exact ⟨rfl, Fr.refl _ _, h⟩
    · rw [if_neg hm, if_neg hm]
      exact lay_ok w p bf nf bs k h (by omega) sp m c data hl hs (by omega)
  · rw [layE, layB, if_neg hn, if_neg hn]
    refine (lay_bad w p bf nf bs n h hn sp m c).mono ?_
    rintro e w' ⟨rfl, rfl⟩
    exact ⟨rfl, Fr.refl _ _, h⟩

theorem rlay_any (w : World) (p bf nf : Nat) (bs : List UInt8) (n : Int) (h : IsRef w p bf nf bs) (sp : Option Addr) (m c : Nat) (data : List UInt8) (hb : Bytes w sp m c data) (ha : Away m sp bf) :
    Calls Try.prog 23 #[.pointer (some ⟨p, 0, none⟩), .int .i64 n, .slice sp m c] w fun e w' => e = .returned (.int .i64 (layE n m nf)) ∧ Fr (at' bf) w w' ∧ IsRef w' p bf nf (layB bs n m nf data) := by
  by_cases hn : 0 ≤ n ∧ n < (nf : Int)
  · obtain ⟨k, rfl⟩ := Int.eq_ofNat_of_zero_le hn.1
    rw [layE, layB, if_pos hn, if_pos hn, Int.toNat_natCast]
    by_cases hm : 64 < m
    · rw [if_pos hm, if_pos hm]
      refine (rlay_long w p bf nf bs k h (by omega) sp m c hm).mono ?_
      rintro e w' ⟨rfl, rfl⟩
      exact ⟨rfl, Fr.refl _ _, h⟩
    · rw [if_neg hm, if_neg hm]
      exact rlay_ok w p bf nf bs k h (by omega) sp m c data hb (by omega) ha
  · rw [layE, layB, if_neg hn, if_neg hn]
    refine (rlay_bad w p bf nf bs n h hn sp m c).mono ?_
    rintro e w' ⟨rfl, rfl⟩
    exact ⟨rfl, Fr.refl _ _, h⟩

set_option maxHeartbeats 1000000 in
theorem does_load (w : World) (B pm bm pr br nf : Nat) (bs : List UInt8) (h : Twin w B pm bm pr br nf bs) (a s : Int) (v m c : Nat) (sp : Option Addr) (hm : a ≤ 9223372036854775807) :
    Calls Try.prog 11 #[.pointer (some ⟨pm, 0, none⟩), .pointer (some ⟨pr, 0, none⟩), .agg #[.int .i64 1, .int .i64 a, .int .i64 s, .int .u32 (v : Int), .slice sp m c]] w (Done w B pm bm pr br nf) := by
  have h' := h.keep0 ((Fr.refl none' w).alloc (.cells #[.int .i64 1, .int .i64 a, .int .i64 s, .int .u32 (v : Int), .slice sp m c] 35))
  have f' := (Fr.refl (two bm br) w).alloc (.cells #[.int .i64 1, .int .i64 a, .int .i64 s, .int .u32 (v : Int), .slice sp m c] 35)
  go_enter Try.func11, Try.ntmps11
  go_wp2_with fail
  refine (load_any _ _ _ _ _ _ _ h'.ram hm).mono ?_
  rintro e w1 ⟨rfl, rfl⟩
  go_wp2_with fail
  refine (rload_any _ _ _ _ _ _ _ h'.ref).mono ?_
  rintro e w1 ⟨rfl, rfl⟩
  go_wp2_with fail
  go_ret
  exact ⟨rfl, f', _, h'⟩

end Go.Proofs.Ytbgioghaloodlaa
