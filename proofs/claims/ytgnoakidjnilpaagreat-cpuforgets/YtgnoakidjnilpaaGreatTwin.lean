/-
  Both memories, with the same bytes. No statement is proved here.
-/
import Derived.Test.YtgnoakidjnilpaaGreatRefFrame
namespace Go.Proofs.YtgnoakidjnilpaaGreat
open Go.RowKit

/-- Both memories, with the same bytes, all four blocks from B on. -/
structure Twin (w : World) (B pm bm pr br nf : Nat) (bs : List UInt8) : Prop where
  ram : IsRam w pm bm nf bs
  ref : IsRef w pr br nf bs
  d1 : pm ≠ br
  d2 : pr ≠ bm
  d3 : bm ≠ br
  lo : B ≤ pm ∧ B ≤ bm ∧ B ≤ pr ∧ B ≤ br

theorem Twin.keep {S : Nat → Prop} {w w' : World} {B pm bm pr br nf : Nat} {bs : List UInt8} (h : Twin w B pm bm pr br nf bs) (f : Fr S w w') (h1 : ¬ S pm) (h2 : ¬ S bm) (h3 : ¬ S pr) (h4 : ¬ S br) : Twin w' B pm bm pr br nf bs :=
  ⟨h.ram.keep f h1 h2, h.ref.keep f h3 h4, h.d1, h.d2, h.d3, h.lo⟩

theorem Twin.keep0 {w w' : World} {B pm bm pr br nf : Nat} {bs : List UInt8} (h : Twin w B pm bm pr br nf bs) (f : Fr none' w w') : Twin w' B pm bm pr br nf bs :=
  h.keep f id id id id

/-- One act by each: first package ram's, then the document's. -/
theorem Twin.step {w w1 w2 : World} {B pm bm pr br nf : Nat} {bs bs' : List UInt8} (h : Twin w B pm bm pr br nf bs) (f1 : Fr (at' bm) w w1) (r1 : IsRam w1 pm bm nf bs') (f2 : Fr (at' br) w1 w2) (r2 : IsRef w2 pr br nf bs') :
    Twin w2 B pm bm pr br nf bs' ∧ Fr (two bm br) w w2 :=
  ⟨⟨r1.keep f2 h.d1 h.d3, r2, h.d1, h.d2, h.d3, h.lo⟩, (f1.mono fun _ _ e => Or.inl e).trans (f2.mono fun _ _ e => Or.inr e)⟩

theorem Twin.refAfter {w w1 : World} {B pm bm pr br nf : Nat} {bs : List UInt8} (h : Twin w B pm bm pr br nf bs) (f1 : Fr (at' bm) w w1) : IsRef w1 pr br nf bs :=
  h.ref.keep f1 h.d2 (Ne.symm h.d3)

theorem Bytes.keep {S : Nat → Prop} {w w' : World} {sp : Option Addr} {m c : Nat} {data : List UInt8} (h : Bytes w sp m c data) (f : Fr S w w') (hs : 0 < m → ∀ a, sp = some a → ¬ S a.block) : Bytes w' sp m c data :=
  ⟨h.len, fun hp => by
    obtain ⟨a, ha, hc⟩ := h.src hp
    refine ⟨a, ha, fun j hj => cell_keep f (hc j hj) ?_⟩
    have : (a.add j).block = a.block := by unfold Addr.add; split <;> rfl
    rw [this]; exact hs (by rw [← h.len]; exact hp) a ha, h.nil⟩

/-- The state of a row of so many bytes that is being overwritten. -/
def Over (w : World) (b n : Nat) : Prop := ∃ cs, Row w b cs 5 ∧ cs.size = n

theorem Over.cell {w : World} {b n : Nat} (h : Over w b n) (i : Nat) (hi : i < n) : ∃ y, w.cell? ⟨b, i, none⟩ = some y := by
  obtain ⟨cs, hr, hs⟩ := h
  rw [hr.cell]
  exact ⟨cs[i]'(by omega), by simp [hs, hi]⟩
theorem Over.frozen {w : World} {b n : Nat} (h : Over w b n) (i : Nat) : w.frozen? ⟨b, i, none⟩ = false := by
  obtain ⟨cs, hr, _⟩ := h; exact hr.frozen i
theorem Over.set {w : World} {b n : Nat} (h : Over w b n) (i : Nat) (v : Value) : Over (w.setCell ⟨b, i, none⟩ v) b n := by
  obtain ⟨cs, hr, hs⟩ := h; exact ⟨_, hr.setCell i v, by simpa using hs⟩

theorem Twin.lt {w : World} {B pm bm pr br nf : Nat} {bs : List UInt8} (h : Twin w B pm bm pr br nf bs) : pm < w.heap.size ∧ bm < w.heap.size ∧ pr < w.heap.size ∧ br < w.heap.size :=
  ⟨h.ram.head.lt, h.ram.row.lt, h.ref.head.lt, h.ref.row.lt⟩

/-- Old blocks are as they were; what is written lies from B on. -/
theorem Fr.own {w w1 w2 : World} {bm br : Nat} (f : Fr none' w w1) (g : Fr (two bm br) w1 w2) (h1 : w.heap.size ≤ bm) (h2 : w.heap.size ≤ br) : Fr none' w w2 :=
  ⟨g.os.trans f.os, g.tape.trans f.tape, g.output.trans f.output, Nat.le_trans f.size g.size, fun i hi hn => (g.block i (Nat.lt_of_lt_of_le hi f.size) (fun e => by rcases e with e | e <;> omega)).trans (f.block i hi hn)⟩

/-- Both memories, made one behind the other. -/
theorem twin_new {w w1 w2 : World} {B nf : Nat} {bs : List UInt8} (hB : B ≤ w.heap.size) (r1 : IsRam w1 (w.heap.size + 1) w.heap.size nf bs) (f2 : Fr none' w1 w2) (r2 : IsRef w2 (w1.heap.size + 1) w1.heap.size nf bs) :
    Twin w2 B (w.heap.size + 1) w.heap.size (w1.heap.size + 1) w1.heap.size nf bs := by
  have h1 := r1.head.lt
  exact ⟨r1.keep f2 id id, r2, by omega, by omega, by omega, by omega, by omega, by omega, by omega⟩

theorem new_nat (n : Nat) (w : World) (h1 : 1 ≤ n) (h2 : n ≤ 1024) :
    Calls Tryz.prog 29 #[.int .i64 (n : Int)] w fun e w' => e = .returned (.tuple #[.pointer (some ⟨w.heap.size + 1, 0, none⟩), .int .i64 0]) ∧
      Fr none' w w' ∧ IsRam w' (w.heap.size + 1) w.heap.size n (List.replicate (64 * n) 0) := by
  have := new_any (n : Int) w (by omega)
  rwa [Int.toNat_natCast] at this
theorem rnew_nat (n : Nat) (w : World) (h1 : 1 ≤ n) (h2 : n ≤ 1024) :
    Calls Tryz.prog 30 #[.int .i64 (n : Int)] w fun e w' => e = .returned (.tuple #[.pointer (some ⟨w.heap.size + 1, 0, none⟩), .int .i64 0]) ∧
      Fr none' w w' ∧ IsRef w' (w.heap.size + 1) w.heap.size n (List.replicate (64 * n) 0) := by
  have := rnew_any (n : Int) w (by omega)
  rwa [Int.toNat_natCast] at this

/-- 'Same' of a frame told by both. -/
theorem same_frame (w : World) (g0 g1 c0 c1 : Nat) (d : List UInt8) (hd : d.length = 64) (h0 : Begins w g0 d c0) (h1 : Begins w g1 d c1) :
    Calls Tryz.prog 23 #[.slice (some ⟨g0, 0, none⟩) 64 c0, .slice (some ⟨g1, 0, none⟩) 64 c1] w fun e w' => e = .returned (.bool true) ∧ Fr none' w w' := by
  refine (same_any w _ _ 64 64 c0 c1 d d hd hd (by omega) h0.src h1.src).mono ?_
  rintro e w' ⟨rfl, f⟩
  exact ⟨ret_bool (decide_eq_true rfl), f⟩

end Go.Proofs.YtgnoakidjnilpaaGreat
