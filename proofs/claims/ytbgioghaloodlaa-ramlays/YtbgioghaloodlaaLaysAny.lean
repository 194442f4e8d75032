/-
  The walk of the law RamLays, whole: for every list of acts, every frame's number, all bytes and every other number the law returns true and nothing old turns.
-/
import Derived.Test.YtbgioghaloodlaaLaysNilA
import Derived.Test.YtbgioghaloodlaaLaysNilB
import Derived.Test.YtbgioghaloodlaaLaysShortA
import Derived.Test.YtbgioghaloodlaaLaysShortB
import Derived.Test.YtbgioghaloodlaaLaysLongA
import Derived.Test.YtbgioghaloodlaaLaysLongB
namespace Go.Proofs.Ytbgioghaloodlaa
open Go.RowKit

/-- What is known of the bytes that came in. -/
def Came (w : World) (sp : Option Addr) (m c : Nat) : Prop := ∃ data, Bytes w sp m c data ∧ (0 < m → ∀ x, sp = some x → x.block < w.heap.size)

theorem lays_nil (w : World) (a0 : Option Addr) (cap : Nat) (n : Int) (sp : Option Addr) (m c : Nat) (hb : Came w sp m c) (other : Int) :
    Calls Try.prog 7 #[.slice a0 0 cap, .int .i64 n, .slice sp m c, .int .i64 other] w fun e w' => e = .returned (.bool true) ∧ Fr none' w w' := by
  obtain ⟨data, hb, hsp⟩ := hb
  by_cases ho : 0 ≤ other ∧ other < ((4 : Nat) : Int)
  · obtain ⟨k, rfl⟩ := Int.eq_ofNat_of_zero_le ho.1
    by_cases hn : 0 ≤ n ∧ n < 4
    · obtain ⟨j, rfl⟩ := Int.eq_ofNat_of_zero_le hn.1
      by_cases hm : 64 < m
      · exact lays_in_long_in_nil w a0 cap j (by omega) sp m c hm k (by omega)
      · by_cases hz : m = 0
        · subst hz; exact lays_in_zero_in_nil w a0 cap j (by omega) sp c data hb hsp k (by omega)
        · obtain ⟨x, rfl, hx⟩ := hb.src (by rw [hb.len]; omega)
          obtain ⟨b2, o2, rfl, _⟩ := src_at (by rw [hb.len]; omega) hx
          exact lays_in_some_in_nil w a0 cap j (by omega) b2 o2 m c data hb hsp (by omega) k (by omega)
    · by_cases h0 : n < 0
      · exact lays_neg_any_in_nil w a0 cap n h0 sp m c k (by omega)
      · exact lays_far_any_in_nil w a0 cap n (by omega) sp m c k (by omega)
  · by_cases hn : 0 ≤ n ∧ n < 4
    · obtain ⟨j, rfl⟩ := Int.eq_ofNat_of_zero_le hn.1
      by_cases hm : 64 < m
      · exact lays_in_long_out_nil w a0 cap j (by omega) sp m c hm other ho
      · by_cases hz : m = 0
        · subst hz; exact lays_in_zero_out_nil w a0 cap j (by omega) sp c data hb hsp other ho
        · obtain ⟨x, rfl, hx⟩ := hb.src (by rw [hb.len]; omega)
          obtain ⟨b2, o2, rfl, _⟩ := src_at (by rw [hb.len]; omega) hx
          exact lays_in_some_out_nil w a0 cap j (by omega) b2 o2 m c data hb hsp (by omega) other ho
    · by_cases h0 : n < 0
      · exact lays_neg_any_out_nil w a0 cap n h0 sp m c other ho
      · exact lays_far_any_out_nil w a0 cap n (by omega) sp m c other ho

theorem lays_short (w : World) (b o len cap : Nat) (ha : Acts w w.heap.size b o len) (hl : len ≤ 9223372036854775807) (h60 : len ≤ 60) (n : Int) (sp : Option Addr) (m c : Nat) (hb : Came w sp m c) (other : Int) :
    Calls Try.prog 7 #[.slice (some ⟨b, o, none⟩) len cap, .int .i64 n, .slice sp m c, .int .i64 other] w fun e w' => e = .returned (.bool true) ∧ Fr none' w w' := by
  obtain ⟨data, hb, hsp⟩ := hb
  by_cases ho : 0 ≤ other ∧ other < ((4 : Nat) : Int)
  · obtain ⟨k, rfl⟩ := Int.eq_ofNat_of_zero_le ho.1
    by_cases hn : 0 ≤ n ∧ n < 4
    · obtain ⟨j, rfl⟩ := Int.eq_ofNat_of_zero_le hn.1
      by_cases hm : 64 < m
      · exact lays_in_long_in_short w b o len cap ha hl h60 j (by omega) sp m c hm k (by omega)
      · by_cases hz : m = 0
        · subst hz; exact lays_in_zero_in_short w b o len cap ha hl h60 j (by omega) sp c data hb hsp k (by omega)
        · obtain ⟨x, rfl, hx⟩ := hb.src (by rw [hb.len]; omega)
          obtain ⟨b2, o2, rfl, _⟩ := src_at (by rw [hb.len]; omega) hx
          exact lays_in_some_in_short w b o len cap ha hl h60 j (by omega) b2 o2 m c data hb hsp (by omega) k (by omega)
    · by_cases h0 : n < 0
      · exact lays_neg_any_in_short w b o len cap ha hl h60 n h0 sp m c k (by omega)
      · exact lays_far_any_in_short w b o len cap ha hl h60 n (by omega) sp m c k (by omega)
  · by_cases hn : 0 ≤ n ∧ n < 4
    · obtain ⟨j, rfl⟩ := Int.eq_ofNat_of_zero_le hn.1
      by_cases hm : 64 < m
      · exact lays_in_long_out_short w b o len cap ha hl h60 j (by omega) sp m c hm other ho
      · by_cases hz : m = 0
        · subst hz; exact lays_in_zero_out_short w b o len cap ha hl h60 j (by omega) sp c data hb hsp other ho
        · obtain ⟨x, rfl, hx⟩ := hb.src (by rw [hb.len]; omega)
          obtain ⟨b2, o2, rfl, _⟩ := src_at (by rw [hb.len]; omega) hx
          exact lays_in_some_out_short w b o len cap ha hl h60 j (by omega) b2 o2 m c data hb hsp (by omega) other ho
    · by_cases h0 : n < 0
      · exact lays_neg_any_out_short w b o len cap ha hl h60 n h0 sp m c other ho
      · exact lays_far_any_out_short w b o len cap ha hl h60 n (by omega) sp m c other ho

theorem lays_long (w : World) (b o len cap : Nat) (ha : Acts w w.heap.size b o len) (hl : len ≤ 9223372036854775807) (h60 : 60 < len) (n : Int) (sp : Option Addr) (m c : Nat) (hb : Came w sp m c) (other : Int) :
    Calls Try.prog 7 #[.slice (some ⟨b, o, none⟩) len cap, .int .i64 n, .slice sp m c, .int .i64 other] w fun e w' => e = .returned (.bool true) ∧ Fr none' w w' := by
  obtain ⟨data, hb, hsp⟩ := hb
  by_cases ho : 0 ≤ other ∧ other < ((4 : Nat) : Int)
  · obtain ⟨k, rfl⟩ := Int.eq_ofNat_of_zero_le ho.1
    by_cases hn : 0 ≤ n ∧ n < 4
    · obtain ⟨j, rfl⟩ := Int.eq_ofNat_of_zero_le hn.1
      by_cases hm : 64 < m
      · exact lays_in_long_in_long w b o len cap ha hl h60 j (by omega) sp m c hm k (by omega)
      · by_cases hz : m = 0
        · subst hz; exact lays_in_zero_in_long w b o len cap ha hl h60 j (by omega) sp c data hb hsp k (by omega)
        · obtain ⟨x, rfl, hx⟩ := hb.src (by rw [hb.len]; omega)
          obtain ⟨b2, o2, rfl, _⟩ := src_at (by rw [hb.len]; omega) hx
          exact lays_in_some_in_long w b o len cap ha hl h60 j (by omega) b2 o2 m c data hb hsp (by omega) k (by omega)
    · by_cases h0 : n < 0
      · exact lays_neg_any_in_long w b o len cap ha hl h60 n h0 sp m c k (by omega)
      · exact lays_far_any_in_long w b o len cap ha hl h60 n (by omega) sp m c k (by omega)
  · by_cases hn : 0 ≤ n ∧ n < 4
    · obtain ⟨j, rfl⟩ := Int.eq_ofNat_of_zero_le hn.1
      by_cases hm : 64 < m
      · exact lays_in_long_out_long w b o len cap ha hl h60 j (by omega) sp m c hm other ho
      · by_cases hz : m = 0
        · subst hz; exact lays_in_zero_out_long w b o len cap ha hl h60 j (by omega) sp c data hb hsp other ho
        · obtain ⟨x, rfl, hx⟩ := hb.src (by rw [hb.len]; omega)
          obtain ⟨b2, o2, rfl, _⟩ := src_at (by rw [hb.len]; omega) hx
          exact lays_in_some_out_long w b o len cap ha hl h60 j (by omega) b2 o2 m c data hb hsp (by omega) other ho
    · by_cases h0 : n < 0
      · exact lays_neg_any_out_long w b o len cap ha hl h60 n h0 sp m c other ho
      · exact lays_far_any_out_long w b o len cap ha hl h60 n (by omega) sp m c other ho

theorem lays_any (w : World) (a0 : Option Addr) (len cap : Nat) (hl : len ≤ 9223372036854775807) (ha : len = 0 ∨ ∃ b o, a0 = some ⟨b, o, none⟩ ∧ Acts w w.heap.size b o len) (n : Int) (sp : Option Addr) (m c : Nat) (hb : Came w sp m c) (other : Int) :
    Calls Try.prog 7 #[.slice a0 len cap, .int .i64 n, .slice sp m c, .int .i64 other] w fun e w' => e = .returned (.bool true) ∧ Below w.heap.size w w' := by
  have key : Calls Try.prog 7 #[.slice a0 len cap, .int .i64 n, .slice sp m c, .int .i64 other] w fun e w' => e = .returned (.bool true) ∧ Fr none' w w' := by
    rcases ha with rfl | ⟨b, o, rfl, ha⟩
    · exact lays_nil w a0 cap n sp m c hb other
    · by_cases h60 : len ≤ 60
      · exact lays_short w b o len cap ha hl h60 n sp m c hb other
      · exact lays_long w b o len cap ha hl (by omega) n sp m c hb other
  exact key.mono fun e w' ⟨he, hf⟩ => ⟨he, hf.below (Nat.le_refl _) (fun k h => h.elim)⟩

end Go.Proofs.Ytbgioghaloodlaa
