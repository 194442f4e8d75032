/-
  What the walk of the law RamApart leans on: four frames appended one behind the other; which bytes a store leaves. No statement is proved here.
-/
import Derived.Test.YtbgioghaloodlaaPlaysWalk
namespace Go.Proofs.Ytbgioghaloodlaa
open Go.RowKit

theorem bytes_row {w : World} {b c : Nat} {d : List UInt8} (h : Row w b (byteVals d) 5) (hl : d.length = 64) : Bytes w (some ⟨b, 0, none⟩) 64 c d :=
  ⟨hl, (begins_row h).src, fun e => by simp at e⟩

/-- The state of a slice that frames are appended to. -/
structure Gath (w : World) (base g n cap : Nat) (d : List UInt8) : Prop where
  len : d.length = n
  row : Begins w g d cap
  most : cap ≤ maxLen
  own : base ≤ g

theorem Gath.keep {S : Nat → Prop} {w w' : World} {base g n cap : Nat} {d : List UInt8} (h : Gath w base g n cap d) (f : Fr S w w') (hs : ¬ S g) : Gath w' base g n cap d :=
  ⟨h.len, h.row.keep f hs, h.most, h.own⟩

theorem gath_first (w : World) (base b : Nat) (data : List UInt8) (hl : data.length = 64) (hr : Row w b (byteVals data) 5) (hbase : base ≤ w.heap.size) :
    ∃ g cap w', (Builtin.append_ #[33, 33] 33 #[.slice none 0 0, .slice (some ⟨b, 0, none⟩) 64 64]).run Try.prog w = .ok (.slice (some ⟨g, 0, none⟩) 64 cap) w' ∧ Gath w' base g 64 cap data ∧ Fr none' w w' := by
  have ho : w.ownsRow base 5 1 (.slice none 0 0) ([] : List UInt8).length (([] : List UInt8).map U8) := World.ownsRow_nil w base 5 1
  obtain ⟨v', w', h1, h2, h3, h4⟩ := append_bytes w 33 base _ [] data _ 64 64 ho (bytes_row hr hl) (by simp) hbase
  have hne : v' ≠ .slice none 0 0 := fun e => by have := (h4.1 e).2; omega
  obtain ⟨g, cap, e, hg, hB, hm⟩ := own_begins h2 hne
  rw [List.nil_append] at e hB
  subst e
  rw [hl] at h1
  exact ⟨g, cap, w', h1, ⟨hl, hB, hm, hg⟩, h3.mono fun k _ hk => by simp [Value.ownBlock] at hk⟩

theorem gath_next (w : World) (base b g n cap n' : Nat) (d data : List UInt8) (h : Gath w base g n cap d) (hl : data.length = 64) (hr : Row w b (byteVals data) 5) (hbase : base ≤ w.heap.size) (hn : n' = n + 64) (hs : n' ≤ 1000) :
    ∃ g' cap' w', (Builtin.append_ #[33, 33] 33 #[.slice (some ⟨g, 0, none⟩) n cap, .slice (some ⟨b, 0, none⟩) 64 64]).run Try.prog w = .ok (.slice (some ⟨g', 0, none⟩) n' cap') w' ∧ Gath w' base g' n' cap' (d ++ data) ∧ Fr (at' g) w w' := by
  have ho := begins_own h.row h.own h.most
  obtain ⟨v', w', h1, h2, h3, h4⟩ := append_bytes w 33 base _ d data _ 64 64 ho (bytes_row hr hl) (by rw [h.len]; omega) hbase
  have hne : v' ≠ .slice none 0 0 := fun e => by have := (h4.1 e).2; omega
  obtain ⟨g', cap', e, hg, hB, hm⟩ := own_begins h2 hne
  subst e
  have hlen : (d ++ data).length = n' := by rw [List.length_append, h.len, hl, hn]
  rw [hlen, h.len] at h1
  exact ⟨g', cap', w', h1, ⟨hlen, hB, hm, hg⟩, h3.mono fun k _ hk => by
    have hk' : some k = some g := hk
    exact Option.some.inj hk'⟩

/-- Four frames are the whole. -/
theorem frames_all (bs : List UInt8) (h : bs.length = 64 * 4) : ((frameOf bs 0 ++ frameOf bs 1) ++ frameOf bs 2) ++ frameOf bs 3 = bs := by
  simp only [frameOf]
  have e3 : (bs.drop (3 * 64)).take 64 = bs.drop 192 := List.take_of_length_le (by simp; omega)
  rw [e3, List.append_assoc, List.append_assoc]
  have s2 : (bs.drop (2 * 64)).take 64 ++ bs.drop 192 = bs.drop 128 := by
    have := List.take_append_drop 64 (bs.drop 128)
    rwa [List.drop_drop] at this
  rw [s2]
  have s1 : (bs.drop (1 * 64)).take 64 ++ bs.drop 128 = bs.drop 64 := by
    have := List.take_append_drop 64 (bs.drop 64)
    rwa [List.drop_drop] at this
  rw [s1]
  rw [show 0 * 64 = 0 from rfl, List.drop_zero]
  exact List.take_append_drop 64 bs

/-- What a store does not own it leaves. -/
theorem store_leaves (bs : List UInt8) (addr size : Int) (nf v k : Nat) (hl : bs.length = 64 * nf) (h : ¬ (errOf addr size nf = 0 ∧ addr ≤ (k : Int) ∧ (k : Int) < addr + size)) :
    (storeB bs addr size nf v)[k]? = bs[k]? := by
  unfold storeB
  by_cases he : errOf addr size nf = 0
  · rw [if_pos he]
    obtain ⟨hs, _, h0, _⟩ := err_zero he
    obtain ⟨a, rfl⟩ := Int.eq_ofNat_of_zero_le h0
    have hfit := stored_fits hl he
    rw [Int.toNat_natCast, putAt_get? _ _ _ (by rw [length_bytesOf]; exact hfit), length_bytesOf, if_neg]
    rintro ⟨h1, h2⟩
    exact h ⟨he, by omega, by omega⟩
  · rw [if_neg he]

theorem length_storeB (bs : List UInt8) (addr size : Int) (nf v : Nat) : (storeB bs addr size nf v).length = bs.length := by
  unfold storeB; split
  · rw [length_putAt]
  · rfl

theorem Begins.at {w : World} {g cap : Nat} {d : List UInt8} (h : Begins w g d cap) (k : Nat) (hk : k < d.length) : w.cell? ⟨g, k, none⟩ = some (.int .u8 ((d[k].toNat : Nat) : Int)) := by
  obtain ⟨a, ha, hc⟩ := h.src (by omega)
  obtain rfl := Option.some.inj ha
  have := hc k hk
  rw [add_lit', Nat.zero_add] at this
  exact this

end Go.Proofs.Ytbgioghaloodlaa
