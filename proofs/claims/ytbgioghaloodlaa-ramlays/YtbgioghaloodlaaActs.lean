/-
  Acts that came in: where they lie and what they hold, kept while the call writes its own blocks. No statement is proved here.
-/
import Derived.Test.YtbgioghaloodlaaDoesMore
namespace Go.Proofs.Ytbgioghaloodlaa
open Go.RowKit

/-- One act that lies from block b's place o on, all that it leads to below block B. -/
structure ActIs (w : World) (B b o : Nat) (dO a s : Int) (v m c : Nat) (sp : Option Addr) (data : List UInt8) : Prop where
  c0 : w.cell? ⟨b, o, none⟩ = some (.int .i64 dO)
  c1 : w.cell? ⟨b, o + 1, none⟩ = some (.int .i64 a)
  c2 : w.cell? ⟨b, o + 2, none⟩ = some (.int .i64 s)
  c3 : w.cell? ⟨b, o + 3, none⟩ = some (.int .u32 (v : Int))
  c4 : w.cell? ⟨b, o + 4, none⟩ = some (.slice sp m c)
  bytes : Bytes w sp m c data
  few : m ≤ 140737488355328
  old : 0 < m → ∀ x, sp = some x → x.block < B
  top : a ≤ 9223372036854775807
  word : v < 4294967296

/-- A row of acts. -/
structure Acts (w : World) (B b o len : Nat) : Prop where
  old : b < B
  each : ∀ i, i < len → ∃ dO a s v m c sp data, ActIs w B b (o + i * 5) dO a s v m c sp data

theorem ActIs.keep {S : Nat → Prop} {w w' : World} {B b o : Nat} {dO a s : Int} {v m c : Nat} {sp : Option Addr} {data : List UInt8} (h : ActIs w B b o dO a s v m c sp data) (f : Fr S w w') (hb : b < B) (hs : ∀ k, k < B → ¬ S k) : ActIs w' B b o dO a s v m c sp data :=
  ⟨cell_keep f h.c0 (hs _ hb), cell_keep f h.c1 (hs _ hb), cell_keep f h.c2 (hs _ hb), cell_keep f h.c3 (hs _ hb), cell_keep f h.c4 (hs _ hb), h.bytes.keep f (fun hp x hx => hs _ (h.old hp x hx)), h.few, h.old, h.top, h.word⟩

theorem Acts.keep {S : Nat → Prop} {w w' : World} {B b o len : Nat} (h : Acts w B b o len) (f : Fr S w w') (hs : ∀ k, k < B → ¬ S k) : Acts w' B b o len :=
  ⟨h.old, fun i hi => by
    obtain ⟨dO, a, s, v, m, c, sp, data, h'⟩ := h.each i hi
    exact ⟨dO, a, s, v, m, c, sp, data, h'.keep f h.old hs⟩⟩

theorem Acts.keep0 {w w' : World} {B b o len : Nat} (h : Acts w B b o len) (f : Fr none' w w') : Acts w' B b o len := h.keep f (fun _ _ h => h)

/-- Old blocks are as they were; what is written lies from B on. -/
theorem Fr.own {w w1 w2 : World} {bm br : Nat} (f : Fr none' w w1) (g : Fr (two bm br) w1 w2) (h1 : w.heap.size ≤ bm) (h2 : w.heap.size ≤ br) : Fr none' w w2 :=
  ⟨g.os.trans f.os, g.tape.trans f.tape, g.output.trans f.output, Nat.le_trans f.size g.size, fun i hi hn => (g.block i (Nat.lt_of_lt_of_le hi f.size) (fun e => by rcases e with e | e <;> omega)).trans (f.block i hi hn)⟩

/-- Both memories, made one behind the other. -/
theorem twin_new {w w1 w2 : World} {B nf : Nat} {bs : List UInt8} (hB : B ≤ w.heap.size) (r1 : IsRam w1 (w.heap.size + 1) w.heap.size nf bs) (f2 : Fr none' w1 w2) (r2 : IsRef w2 (w1.heap.size + 1) w1.heap.size nf bs) :
    Twin w2 B (w.heap.size + 1) w.heap.size (w1.heap.size + 1) w1.heap.size nf bs := by
  have h1 := r1.head.lt
  exact ⟨r1.keep f2 id id, r2, by omega, by omega, by omega, by omega, by omega, by omega, by omega⟩

end Go.Proofs.Ytbgioghaloodlaa
