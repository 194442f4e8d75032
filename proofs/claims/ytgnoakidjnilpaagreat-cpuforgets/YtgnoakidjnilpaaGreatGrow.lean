/-
  'append' of bytes to a slice of the call's own. No statement is proved here.
-/
import Derived.Test.YtgnoakidjnilpaaGreatRefMore
import Derived.Laws.AppendOwnNone
namespace Go.Proofs.YtgnoakidjnilpaaGreat
open Go.RowKit

/-- Block g begins with these bytes; it has so many cells in all. -/
def Begins (w : World) (g : Nat) (d : List UInt8) (cap : Nat) : Prop :=
  ∃ cs, Row w g cs 5 ∧ cs.size = cap ∧ d.length ≤ cap ∧ cs.toList.take d.length = d.map U8

theorem Begins.lt {w : World} {g cap : Nat} {d : List UInt8} (h : Begins w g d cap) : g < w.heap.size := by
  obtain ⟨cs, h, _⟩ := h; exact h.lt

theorem Begins.keep {S : Nat → Prop} {w w' : World} {g cap : Nat} {d : List UInt8} (h : Begins w g d cap) (f : Fr S w w') (hs : ¬ S g) : Begins w' g d cap := by
  obtain ⟨cs, h, r⟩ := h; exact ⟨cs, h.keep f hs, r⟩

theorem Begins.src {w : World} {g cap : Nat} {d : List UInt8} (h : Begins w g d cap) : Src w (some ⟨g, 0, none⟩) d := by
  intro _
  obtain ⟨cs, hr, hc, hl, ht⟩ := h
  refine ⟨_, rfl, fun j hj => ?_⟩
  rw [add_lit', Nat.zero_add, hr.cell]
  have h1 : (cs.toList.take d.length)[j]? = some (U8 d[j]) := by rw [ht]; simp [hj]
  rw [List.getElem?_take, if_pos hj] at h1
  simpa using h1

theorem begins_row {w : World} {g : Nat} {d : List UInt8} (h : Row w g (byteVals d) 5) : Begins w g d d.length :=
  ⟨_, h, size_byteVals d, Nat.le_refl _, by simp only [byteVals]; exact List.take_of_length_le (by simp)⟩

/-- Where a slice's bytes lie; a nil one has none. -/
structure Bytes (w : World) (sp : Option Addr) (m c : Nat) (data : List UInt8) : Prop where
  len : data.length = m
  src : Src w sp data
  nil : sp = none → m = 0 ∧ c = 0

theorem fr_of_grown {w w' : World} {row : Option Nat} (h : w.grownBy w' row) : Fr (fun k => some k = row) w w' :=
  ⟨h.os, h.tape, h.output, h.size, fun k hk hn => h.block k hk hn⟩

theorem own_begins {w : World} {base : Nat} {v : Value} {d : List UInt8} (h : w.ownsRow base 5 1 v d.length (d.map U8)) (hv : v ≠ .slice none 0 0) :
    ∃ g cap, v = .slice (some ⟨g, 0, none⟩) d.length cap ∧ base ≤ g ∧ Begins w g d cap ∧ cap ≤ maxLen := by
  obtain ⟨_, h | ⟨g, cap, cur, hv', hb, hg, hl, hm, hs, ht⟩⟩ := h
  · exact absurd h.1 hv
  · exact ⟨g, cap, hv', hb, ⟨cur, hg, by simpa using hs, hl, by simpa using ht⟩, hm⟩

theorem begins_own {w : World} {base g cap : Nat} {d : List UInt8} (h : Begins w g d cap) (hb : base ≤ g) (hm : cap ≤ maxLen) : w.ownsRow base 5 1 (.slice (some ⟨g, 0, none⟩) d.length cap) d.length (d.map U8) := by
  obtain ⟨cs, hr, hc, hl, ht⟩ := h
  exact ⟨by simp, .inr ⟨g, cap, cs, rfl, hb, hr, hl, hm, by simpa using hc, by simpa using ht⟩⟩

/-- 'append' of bytes to an own slice of bytes. -/
theorem append_bytes (w : World) (ty : TypeId) (base : Nat) (v : Value) (d data : List UInt8) (sp : Option Addr) (m c : Nat) (ho : w.ownsRow base 5 1 v d.length (d.map U8)) (hb : Bytes w sp m c data)
    (hm : d.length + m ≤ 140737488355328) (hbase : base ≤ w.heap.size) :
    ∃ v' w', (Builtin.append_ #[74, 74] ty #[v, .slice sp m c]).run Tryz.prog w = .ok v' w' ∧ w'.ownsRow base 5 1 v' (d ++ data).length ((d ++ data).map U8) ∧ Fr (fun k => some k = v.ownBlock) w w' ∧
      (v' = .slice none 0 0 ↔ v = .slice none 0 0 ∧ m = 0) := by
  have hi := info5
  cases hq : Tryz.prog.info? 5 with
  | none => simp [hq] at hi
  | some i =>
    rw [hq] at hi
    simp only [Option.map_some, Option.some.injEq, Prod.mk.injEq] at hi
    obtain ⟨hz, hby, hs⟩ := hi
    have hl := hb.len
    cases sp with
    | none =>
      obtain ⟨rfl, rfl⟩ := hb.nil rfl
      have e := List.eq_nil_of_length_eq_zero hl
      subst e
      have hrun := run_append_owned_none (P := Tryz.prog) (w := w) base 74 ty 5 i 1 Tryz.underlying74 hq v _ _ ho
      exact ⟨v, w, hrun, by simpa using ho, Fr.refl _ _, by simp⟩
    | some a =>
      obtain ⟨v', w', h1, h2, h3, h4⟩ := run_append_own (P := Tryz.prog) w base 74 ty 5 i _ 1 1 Tryz.underlying74 hq hz hs hby rfl (by omega) v _ _ ho a m c (data.map U8) (by simp [hl])
        (fun j u hu => by
          rw [List.getElem?_map] at hu
          cases hd : data[j]? with
          | none => simp [hd] at hu
          | some x =>
            obtain ⟨hj, hx⟩ := List.getElem?_eq_some_iff.1 hd
            simp [hd] at hu
            obtain ⟨a', ha', hc⟩ := hb.src (by omega)
            obtain rfl := Option.some.inj ha'
            rw [hc j hj, hx, hu])
        (fun v hv => by obtain ⟨x, _, rfl⟩ := List.mem_map.1 hv; exact one_U8 x) (by simp only [maxLen]; omega) (by omega) hbase
      refine ⟨v', w', h1, ?_, fr_of_grown h3, h4⟩
      rw [List.length_append, List.map_append, hl]
      exact h2

/-- 'append([]byte{}, xs...)': a row of the call's own that begins with the bytes. -/
theorem append_fresh (w : World) (ty : TypeId) (sp : Option Addr) (m c : Nat) (data : List UInt8) (hb : Bytes w sp m c data) (hm : m ≤ 140737488355328) :
    ∃ g cap w', (Builtin.append_ #[74, 74] ty #[.slice (some ⟨w.heap.size, 0, none⟩) 0 0, .slice sp m c]).run Tryz.prog (w.alloc (.cells #[] 5)) = .ok (.slice (some ⟨g, 0, none⟩) m cap) w' ∧
      w.heap.size ≤ g ∧ Fr none' w w' ∧ Begins w' g data cap := by
  have ho := World.ownsRow_made (e := 5) (size := 1) w #[] 0 (Nat.le_refl _) (by simp [maxLen]) rfl
  have f0 : Fr none' w (w.alloc (.cells #[] 5)) := (Fr.refl _ w).alloc _
  have hb' : Bytes (w.alloc (.cells #[] 5)) sp m c data := ⟨hb.len, fun hp => by
    obtain ⟨a, ha, hc⟩ := hb.src hp
    refine ⟨a, ha, fun j hj => ?_⟩
    have := hc j hj
    exact Lib.cell?_alloc_some _ this, hb.nil⟩
  obtain ⟨v', w', h1, h2, h3, h4⟩ := append_bytes (w.alloc (.cells #[] 5)) ty w.heap.size _ [] data sp m c ho hb' (by simpa using hm) (by simp)
  have hne : v' ≠ .slice none 0 0 := fun e => by have := (h4.1 e).1; simp at this
  obtain ⟨g, cap, e, hg, hB, _⟩ := own_begins h2 hne
  rw [List.nil_append] at e hB
  subst e
  rw [hb.len] at h1
  refine ⟨g, cap, w', h1, hg, f0.newer (b := w.heap.size) (h3.mono fun k _ hk => ?_) (Nat.le_refl _), hB⟩
  have hk' : some k = some w.heap.size := hk
  exact Option.some.inj hk'

theorem putAt_snoc (l : List UInt8) (x : UInt8) : ∀ (bs : List UInt8) (o : Nat), putAt bs o (l ++ [x]) = (putAt bs o l).set (o + l.length) x := by
  induction l with
  | nil => intro bs o; rfl
  | cons y r ih => intro bs o; simp only [List.cons_append, putAt, ih, List.length_cons]; congr 1; omega

end Go.Proofs.YtgnoakidjnilpaaGreat
