/-
  The document's without, rest, deliver, over the translation. No statement is proved here.
-/
import Derived.Test.YtjobdfkfongjaaaIpOwn
import Derived.Test.YtjobdfkfongjaaaIpRefR
import Derived.Test.YtjobdfkfongjaaaIpCanB
/- IpDoc -/
namespace Go.Proofs.Ytjobdfkfongjaaa
open Go.RowKit Go.Maps Go.WideMaps

section
variable {α : Type} {enc : α → List Value} {k : Nat}
/-- A slice of the call's own: l's elements, k cells each. -/
def FL (e : TypeId) (k : Nat) (enc : α → List Value) (B : Nat) (w : World) (v : Value) (l : List α) : Prop := w.ownsRow B e k v l.length (l.flatMap enc)
theorem flat_len (hk : ∀ x, (enc x).length = k) (l : List α) : (l.flatMap enc).length = l.length * k := by
  induction l with
  | nil => simp
  | cons x l ih => rw [List.flatMap_cons, List.length_append, ih, hk, List.length_cons, Nat.add_mul]; omega
theorem flat_at (hk : ∀ x, (enc x).length = k) : ∀ (l : List α) (i : Nat) (x : α), l[i]? = some x → ∀ r, r < k → (l.flatMap enc)[i * k + r]? = (enc x)[r]?
  | [], i, x, h, r, hr => by simp at h
  | y :: l, 0, x, h, r, hr => by
    simp at h; subst h
    rw [List.flatMap_cons, Nat.zero_mul, Nat.zero_add, List.getElem?_append_left (by rw [hk]; exact hr)]
  | y :: l, i + 1, x, h, r, hr => by
    have e : (i + 1) * k + r = k + (i * k + r) := by rw [Nat.add_mul]; omega
    rw [List.flatMap_cons, List.getElem?_append_right (by rw [hk, e]; omega), hk, e, Nat.add_sub_cancel_left]
    exact flat_at hk l i x (by simpa using h) r hr
variable {e : TypeId} {B : Nat} {w w' : World} {v : Value} {l : List α}
theorem fl_nil (e : TypeId) (k B : Nat) (enc : α → List Value) (w : World) : FL e k enc B w (.slice none 0 0) [] := ⟨by simp, Or.inl ⟨rfl, rfl⟩⟩
theorem FL.at (h : FL e k enc B w v l) (hk : ∀ q, some q = v.ownBlock → q < w.heap.size → w'.heap[q]? = w.heap[q]?) : FL e k enc B w' v l := ownsRow_at h hk
theorem FL.keep0 (h : FL e k enc B w v l) (f : Fr none' w w') : FL e k enc B w' v l := ownsRow_at h fun q _ hl => f.block q hl (fun h => h)
theorem FL.low {B' : Nat} (h : FL e k enc B w v l) (hb : B' ≤ B) : FL e k enc B' w v l := by
  obtain ⟨hl, h | ⟨g, cap, cur, hv, hb', r⟩⟩ := h
  · exact ⟨hl, Or.inl h⟩
  · exact ⟨hl, Or.inr ⟨g, cap, cur, hv, by omega, r⟩⟩
theorem FL.blk (h : FL e k enc B w v l) {q : Nat} (hq : some q = v.ownBlock) : B ≤ q ∧ q < w.heap.size ∧ ∃ cur, Row w q cur e := by
  obtain ⟨h1, cur, r⟩ := own_rowB h hq
  exact ⟨h1, r.lt, cur, r⟩
/-- A slice, and each element's cells. -/
theorem FL.form (hk : ∀ x, (enc x).length = k) (h : FL e k enc B w v l) : ∃ (a : Option Addr) (cap : Nat), v = .slice a l.length cap ∧ ∀ i x, l[i]? = some x → ∃ g, a = some ⟨g, 0, none⟩ ∧ (∀ r u, (enc x)[r]? = some u → w.cell? ⟨g, i * k + r, none⟩ = some u) ∧ ∀ r, w.frozen? ⟨g, r, none⟩ = false := by
  obtain ⟨_, hh | ⟨g, cap, cur, hv, hb, hg, hc, hm, hs, ht⟩⟩ := h
  · obtain ⟨h1, h2⟩ := hh
    refine ⟨none, 0, by rw [h1, h2], fun i x hi => ?_⟩
    rw [List.length_eq_zero_iff.mp h2] at hi
    simp at hi
  · refine ⟨_, cap, hv, fun i x hi => ⟨g, rfl, fun r u hu => ?_, fun r => (show Row w g cur _ from hg).frozen r⟩⟩
    have hlt : i < l.length := by
      rcases Nat.lt_or_ge i l.length with h' | h'
      · exact h'
      · rw [List.getElem?_eq_none h'] at hi; cases hi
    have hr : r < k := by
      rcases Nat.lt_or_ge r k with h' | h'
      · exact h'
      · rw [List.getElem?_eq_none (by rw [hk]; exact h')] at hu; cases hu
    have hm : i * k + r < l.length * k := by
      have := Nat.mul_le_mul_right k hlt
      rw [Nat.succ_mul] at this
      omega
    rw [(show Row w g cur _ from hg).cell, ← hu, ← flat_at hk l i x hi r hr, ← ht, List.getElem?_take, if_pos hm]
    simp
/-- One element more. -/
theorem FL.app {T : TypeId} {bytes : Nat} {z : Value} (hT : Try.prog.underlying T = some (.slice e)) (hi : (Try.prog.info? e).map (fun i => (i.zero, i.size, i.bytes)) = some (some z, k, bytes)) (hz : z.cells.size = k) (hk0 : 0 < k) (hb8 : bytes ≤ 1000) (hk : ∀ x, (enc x).length = k) (h1 : ∀ x u, u ∈ enc x → u.oneCell' = true)
    (h : FL e k enc B w v l) (hn : l.length ≤ 100000) (hB : B ≤ w.heap.size) (x : α) :
    ∃ v' w', (Builtin.append_ #[T, T] T #[v, .slice (some ⟨w.heap.size, 0, none⟩) 1 1]).run Try.prog (w.alloc (.cells (enc x).toArray e)) = .ok v' w' ∧ Fr (fun q => some q = v.ownBlock) w w' ∧ FL e k enc B w' v' (l ++ [x]) ∧ (∀ q, some q = v'.ownBlock → some q = v.ownBlock ∨ w.heap.size ≤ q) := by
  have f0 := (Fr.refl none' w).alloc (.cells (enc x).toArray e)
  have r0 := row_alloc w (enc x).toArray e
  cases hq : Try.prog.info? e with
  | none => simp [hq] at hi
  | some i =>
    rw [hq] at hi
    simp only [Option.map_some, Option.some.injEq, Prod.mk.injEq] at hi
    obtain ⟨hz0, hs, hby⟩ := hi
    obtain ⟨v', w', g1, g2, g3, _, g5⟩ := run_append_own_at (P := Try.prog) (w := w.alloc (.cells (enc x).toArray e)) B T T e i z k bytes hT hq hz0 hs hby hz hk0 v l.length _ (ownsRow_at h fun q _ hl => f0.block q hl (fun h => h)) ⟨w.heap.size, 0, none⟩ 1 1 (enc x) (by rw [hk, Nat.one_mul]) (fun j u hu => by
      rw [add_lit', Nat.zero_add, r0.cell]
      simpa using hu) (h1 x) (by simp only [maxLen]; omega) (Nat.le_trans (Nat.mul_le_mul_left _ hb8) (by omega)) (by have := f0.size; omega)
    refine ⟨v', w', g1, (f0.mono (fun _ _ h => h.elim)).trans (fr_of_grown' g3), ?_, fun q hq => ?_⟩
    · unfold FL
      rw [List.flatMap_append, List.length_append]
      simpa using g2
    · rcases g5 with g5 | g5
      · exact Or.inl (hq.trans g5)
      · rw [g5] at hq
        have := Option.some.inj hq
        exact Or.inr (by rw [this, World.size_alloc]; omega)
end

/-! ### the document's state -/
/-- A thread that waits. -/
structure Wq where
  t : Int
  s : Int
  o : Int
  m : Ms
  c : Bool
structure Dc where
  L : List Wq
  C : List (Int × Int)
  B : List (Int × Int)
  G : List (Int × Int)
  X : List (Int × Ms)
def encQ (x : Wq) : List Value := [.int .i64 x.t, .int .i64 x.s, .int .i64 x.o, .int .i64 x.m.l, .int .i64 x.m.b, .int .i64 x.m.n, .int .u32 x.m.w0, .int .u32 x.m.w1, .int .u32 x.m.w2, .int .u32 x.m.w3, .bool x.c]
def enc2 (x : Int × Int) : List Value := [.int .i64 x.1, .int .i64 x.2]
def encB (x : Int × Ms) : List Value := [.int .i64 x.1, .int .i64 x.2.l, .int .i64 x.2.b, .int .i64 x.2.n, .int .u32 x.2.w0, .int .u32 x.2.w1, .int .u32 x.2.w2, .int .u32 x.2.w3]
theorem encQ_len (x : Wq) : (encQ x).length = 11 := rfl
theorem enc2_len (x : Int × Int) : (enc2 x).length = 2 := rfl
theorem encB_len (x : Int × Ms) : (encB x).length = 8 := rfl
theorem encQ_one (x : Wq) (u : Value) (h : u ∈ encQ x) : u.oneCell' = true := by
  simp [encQ] at h
  rcases h with rfl | rfl | rfl | rfl | rfl | rfl | rfl | rfl | rfl | rfl | rfl <;> rfl
theorem enc2_one (x : Int × Int) (u : Value) (h : u ∈ enc2 x) : u.oneCell' = true := by
  simp [enc2] at h
  rcases h with rfl | rfl <;> rfl
theorem encB_one (x : Int × Ms) (u : Value) (h : u ∈ encB x) : u.oneCell' = true := by
  simp [encB] at h
  rcases h with rfl | rfl | rfl | rfl | rfl | rfl | rfl | rfl <;> rfl
abbrev FQw := FL 103 11 encQ
abbrev FQp := FL 111 2 enc2
abbrev FQx := FL 113 8 encB
theorem info_qw : (Try.prog.info? 103).map (fun i => (i.zero, i.size, i.bytes)) = some (some (.agg (encQ ⟨0, 0, 0, M0, false⟩).toArray), 11, 72) := by kernel_rfl
theorem info_q2 : (Try.prog.info? 111).map (fun i => (i.zero, i.size, i.bytes)) = some (some (.agg (enc2 (0, 0)).toArray), 2, 16) := by kernel_rfl
theorem info_qx : (Try.prog.info? 113).map (fun i => (i.zero, i.size, i.bytes)) = some (some (.agg (encB (0, M0)).toArray), 8, 48) := by kernel_rfl

/-- Where it lies. -/
structure Db where
  b : Nat
  L : Value
  C : Value
  B : Value
  G : Value
  X : Value
def Db.s (q : Db) : Nat → Prop := fun k => k = q.b ∨ some k = q.L.ownBlock ∨ some k = q.C.ownBlock ∨ some k = q.B.ownBlock ∨ some k = q.G.ownBlock ∨ some k = q.X.ownBlock
structure IsD (w : World) (q : Db) (D : Dc) : Prop where
  row : Row w q.b #[q.L, q.C, q.B, q.G, q.X] 31
  l : FQw 0 w q.L D.L
  c : FQp 0 w q.C D.C
  b : FQp 0 w q.B D.B
  g : FQp 0 w q.G D.G
  x : FQx 0 w q.X D.X
  cb : ∀ k, some k = q.C.ownBlock → some k = q.B.ownBlock → False
  cg : ∀ k, some k = q.C.ownBlock → some k = q.G.ownBlock → False
  bg : ∀ k, some k = q.B.ownBlock → some k = q.G.ownBlock → False
section
variable {w w' : World} {q : Db} {D : Dc}
theorem IsD.keep {T : Nat → Prop} (h : IsD w q D) (f : Fr T w w') (hs : ∀ k, q.s k → ¬ T k) : IsD w' q D :=
  ⟨h.row.keep f (hs _ (Or.inl rfl)), h.l.at (fun k hk hl => f.block k hl (hs k (Or.inr (Or.inl hk)))), h.c.at (fun k hk hl => f.block k hl (hs k (Or.inr (Or.inr (Or.inl hk))))), h.b.at (fun k hk hl => f.block k hl (hs k (Or.inr (Or.inr (Or.inr (Or.inl hk)))))), h.g.at (fun k hk hl => f.block k hl (hs k (Or.inr (Or.inr (Or.inr (Or.inr (Or.inl hk))))))), h.x.at (fun k hk hl => f.block k hl (hs k (Or.inr (Or.inr (Or.inr (Or.inr (Or.inr hk))))))), h.cb, h.cg, h.bg⟩
theorem IsD.keep0 (h : IsD w q D) (f : Fr none' w w') : IsD w' q D := h.keep f (fun _ _ h => h)
theorem IsD.lt (h : IsD w q D) (k : Nat) (hk : q.s k) : k < w.heap.size := by
  rcases hk with rfl | hk | hk | hk | hk | hk
  · exact h.row.lt
  · exact (h.l.blk hk).2.1
  · exact (h.c.blk hk).2.1
  · exact (h.b.blk hk).2.1
  · exact (h.g.blk hk).2.1
  · exact (h.x.blk hk).2.1
theorem isD_new (w : World) : IsD (w.alloc (.cells #[.slice none 0 0, .slice none 0 0, .slice none 0 0, .slice none 0 0, .slice none 0 0] 31)) ⟨w.heap.size, .slice none 0 0, .slice none 0 0, .slice none 0 0, .slice none 0 0, .slice none 0 0⟩ ⟨[], [], [], [], []⟩ :=
  ⟨row_alloc _ _ _, fl_nil _ _ _ _ _, fl_nil _ _ _ _ _, fl_nil _ _ _ _ _, fl_nil _ _ _ _ _, fl_nil _ _ _ _ _, fun k h => by simp [Value.ownBlock] at h, fun k h => by simp [Value.ownBlock] at h, fun k h => by simp [Value.ownBlock] at h⟩
end

end Go.Proofs.Ytjobdfkfongjaaa

/- IpDocA -/
namespace Go.Proofs.Ytjobdfkfongjaaa
open Go.RowKit Go.Maps Go.WideMaps

theorem find_at {α : Type} {p : α → Bool} : ∀ {l : List α} {i : Nat} {x : α}, l[i]? = some x → p x = true → (∀ (m : Nat) (n : α), m < i → l[m]? = some n → p n = false) → l.find? p = some x
  | [], i, x, h, _, _ => by simp at h
  | y :: l, 0, x, h, hp, _ => by
    simp at h; subst h
    rw [List.find?_cons, hp]
  | y :: l, i + 1, x, h, hp, hn => by
    rw [List.find?_cons, hn 0 y (by omega) (by simp)]
    exact find_at (l := l) (i := i) (by simpa using h) hp (fun m n hm h' => hn (m + 1) n (by omega) (by simpa using h'))
theorem find_no {α : Type} {p : α → Bool} {l : List α} (hn : ∀ (m : Nat) (n : α), m < l.length → l[m]? = some n → p n = false) : l.find? p = none := by
  rw [List.find?_eq_none]
  intro x hx
  obtain ⟨m, hm, e⟩ := List.mem_iff_getElem.1 hx
  rw [hn m x hm (by rw [List.getElem?_eq_getElem hm, e])]
  simp
/-- What a search comes to: the first element that fits, its place; or none. -/
def Fnd {α : Type} (p : α → Bool) (l : List α) (i : Int) : Prop := (l.find? p = none ∧ i = -1) ∨ ∃ (j : Nat) (x : α), l.find? p = some x ∧ l[j]? = some x ∧ i = (j : Int) ∧ ∀ (m : Nat) (n : α), m < j → l[m]? = some n → p n = false
def atP (t : Int) (x : Wq) : Bool := x.t == t
def fiP (s o : Int) (x : Wq) : Bool := x.s == s && x.o == o
/-- The other one of a pair. -/
def witI (l : List (Int × Int)) (a : Int) : Int := match l.find? (fun p => p.1 == a) with
  | some p => p.2
  | none => -1
theorem witI_some {l : List (Int × Int)} {a : Int} {p : Int × Int} (h : l.find? (fun p => p.1 == a) = some p) : witI l a = p.2 := by unfold witI; rw [h]
theorem witI_none {l : List (Int × Int)} {a : Int} (h : l.find? (fun p => p.1 == a) = none) : witI l a = -1 := by unfold witI; rw [h]
def ofI (l : List (Int × Int)) (b : Int) : Int := match l.find? (fun p => p.2 == b) with
  | some p => p.1
  | none => -1
theorem ofI_some {l : List (Int × Int)} {b : Int} {p : Int × Int} (h : l.find? (fun p => p.2 == b) = some p) : ofI l b = p.1 := by unfold ofI; rw [h]
theorem ofI_none {l : List (Int × Int)} {b : Int} (h : l.find? (fun p => p.2 == b) = none) : ofI l b = -1 := by unfold ofI; rw [h]

set_option maxRecDepth 100000 in
set_option maxHeartbeats 2000000 in
theorem dat_any (w : World) (q : Db) (D : Dc) (h : IsD w q D) (hlen : D.L.length ≤ 100000) (t : Int) :
    Calls Try.prog 74 #[pv q.b, .int .i64 t] w fun e w' => w' = w ∧ ∃ i, e = .returned (.int .i64 i) ∧ Fnd (atP t) D.L i := by
  have c0 : w.cell? ⟨q.b, 0, none⟩ = some q.L := h.row.cell 0
  obtain ⟨a, cap, hv, hn⟩ := h.l.form encQ_len
  rw [hv] at c0
  generalize D.L = l at *
  have HN : Hid (∀ i n, l[i]? = some n → ∃ g, a = some ⟨g, 0, none⟩ ∧ w.cell? ⟨g, i * 11, none⟩ = some (.int .i64 n.t)) := fun i n hi => by
    obtain ⟨g, e, c, _⟩ := hn i n hi
    exact ⟨g, e, c 0 _ rfl⟩
  clear hn hv h
  obtain ⟨N, hNl⟩ : ∃ N, N = l.length := ⟨_, rfl⟩
  rw [← hNl] at c0 hlen
  have HL : Hid (N = l.length) := hNl
  clear hNl
  go_enter Try.func74, Try.ntmps74
  go_wp2_with fail
  go_loopw [5] (fun i wr => ∃ j : Nat, j ≤ N ∧ i = .int .i64 (j : Int) ∧ Hid (wr = w ∧ ∀ m n, m < j → l[m]? = some n → atP t n = false)) (fun i _ => N - (intOf i).toNat)
  case atStart => exact ⟨0, by omega, rfl, rfl, fun m n hm => by omega⟩
  case round =>
    obtain ⟨j, hj, rfl, hI⟩ := hrel
    obtain rfl : wr = w := hI.out.1
    by_cases hjN : j < N
    · have hjL : j < l.length := by rw [← HL.out]; exact hjN
      obtain ⟨g, rfl, d0⟩ := HN.out j l[j] (List.getElem?_eq_getElem hjL)
      have HX : Hid (l[j]? = some l[j]) := List.getElem?_eq_getElem hjL
      generalize l[j] = n at *
      by_cases e : n.t = t
      · have t1 : (n.t == t) = true := by simpa using e
        have HE : Hid (atP t n = true) := t1
        clear e
        go_wp2_with fail
        go_ret
        exact ⟨rfl, _, rfl, Or.inr ⟨j, n, find_at HX.out HE.out hI.out.2, HX.out, rfl, hI.out.2⟩⟩
      · have t1 : (n.t == t) = false := by simpa using e
        have HE : Hid (atP t n = false) := t1
        clear e
        go_wp2_with fail
        go_roundw
        case rel =>
          refine ⟨j + 1, by omega, by go_num, trivial, fun m n' hm hn' => ?_⟩
          by_cases em : m = j
          · subst em
            rw [HX.out] at hn'
            cases hn'
            exact HE.out
          · exact hI.out.2 m n' (by omega) hn'
        case measure => simp [intOf]; omega
    · obtain rfl : j = N := by omega
      go_wp2_with fail
      go_ret
      exact ⟨rfl, _, rfl, Or.inl ⟨find_no (fun m n hm => hI.out.2 m n (by rw [HL.out]; exact hm)), rfl⟩⟩

set_option maxRecDepth 100000 in
set_option maxHeartbeats 2000000 in
theorem dfirst_any (w : World) (q : Db) (D : Dc) (h : IsD w q D) (hlen : D.L.length ≤ 100000) (s o : Int) :
    Calls Try.prog 75 #[pv q.b, .int .i64 s, .int .i64 o] w fun e w' => w' = w ∧ ∃ i, e = .returned (.int .i64 i) ∧ Fnd (fiP s o) D.L i := by
  have c0 : w.cell? ⟨q.b, 0, none⟩ = some q.L := h.row.cell 0
  obtain ⟨a, cap, hv, hn⟩ := h.l.form encQ_len
  rw [hv] at c0
  generalize D.L = l at *
  have HN : Hid (∀ i n, l[i]? = some n → ∃ g, a = some ⟨g, 0, none⟩ ∧ w.cell? ⟨g, i * 11 + 1, none⟩ = some (.int .i64 n.s) ∧ w.cell? ⟨g, i * 11 + 2, none⟩ = some (.int .i64 n.o)) := fun i n hi => by
    obtain ⟨g, e, c, _⟩ := hn i n hi
    exact ⟨g, e, c 1 _ rfl, c 2 _ rfl⟩
  clear hn hv h
  obtain ⟨N, hNl⟩ : ∃ N, N = l.length := ⟨_, rfl⟩
  rw [← hNl] at c0 hlen
  have HL : Hid (N = l.length) := hNl
  clear hNl
  go_enter Try.func75, Try.ntmps75
  go_wp2_with fail
  go_loopw [7] (fun i wr => ∃ j : Nat, j ≤ N ∧ i = .int .i64 (j : Int) ∧ Hid (wr = w ∧ ∀ m n, m < j → l[m]? = some n → fiP s o n = false)) (fun i _ => N - (intOf i).toNat)
  case atStart => exact ⟨0, by omega, rfl, rfl, fun m n hm => by omega⟩
  case round =>
    obtain ⟨j, hj, rfl, hI⟩ := hrel
    obtain rfl : wr = w := hI.out.1
    by_cases hjN : j < N
    · have hjL : j < l.length := by rw [← HL.out]; exact hjN
      obtain ⟨g, rfl, d1, d2⟩ := HN.out j l[j] (List.getElem?_eq_getElem hjL)
      have HX : Hid (l[j]? = some l[j]) := List.getElem?_eq_getElem hjL
      generalize l[j] = n at *
      by_cases e : n.s = s
      · have t1 : (n.s == s) = true := by simpa using e
        clear e
        by_cases e : n.o = o
        · have t2 : (n.o == o) = true := by simpa using e
          have HE : Hid (fiP s o n = true) := by show (n.s == s && n.o == o) = true; rw [t1, t2]; rfl
          clear e
          go_wp2_with fail
          go_ret
          exact ⟨rfl, _, rfl, Or.inr ⟨j, n, find_at HX.out HE.out hI.out.2, HX.out, rfl, hI.out.2⟩⟩
        have t2 : (n.o == o) = false := by simpa using e
        have HE : Hid (fiP s o n = false) := by show (n.s == s && n.o == o) = false; rw [t1, t2]; rfl
        clear e
        go_wp2_with fail
        go_roundw
        case rel =>
          refine ⟨j + 1, by omega, by go_num, trivial, fun m n' hm hn' => ?_⟩
          by_cases em : m = j
          · subst em
            rw [HX.out] at hn'
            cases hn'
            exact HE.out
          · exact hI.out.2 m n' (by omega) hn'
        case measure => simp [intOf]; omega
      · have t1 : (n.s == s) = false := by simpa using e
        have HE : Hid (fiP s o n = false) := by show (n.s == s && n.o == o) = false; rw [t1]; rfl
        clear e
        go_wp2_with fail
        go_roundw
        case rel =>
          refine ⟨j + 1, by omega, by go_num, trivial, fun m n' hm hn' => ?_⟩
          by_cases em : m = j
          · subst em
            rw [HX.out] at hn'
            cases hn'
            exact HE.out
          · exact hI.out.2 m n' (by omega) hn'
        case measure => simp [intOf]; omega
    · obtain rfl : j = N := by omega
      go_wp2_with fail
      go_ret
      exact ⟨rfl, _, rfl, Or.inl ⟨find_no (fun m n hm => hI.out.2 m n (by rw [HL.out]; exact hm)), rfl⟩⟩

set_option maxRecDepth 100000 in
set_option maxHeartbeats 2000000 in
theorem dwith_any (w : World) (B : Nat) (v : Value) (l : List (Int × Int)) (h : FQp B w v l) (hlen : l.length ≤ 100000) (k : Int) :
    Calls Try.prog 81 #[v, .int .i64 k] w fun e w' => w' = w ∧ e = .returned (.int .i64 (witI l k)) := by
  obtain ⟨a, cap, hv, hn⟩ := h.form enc2_len
  rw [hv]
  have HN : Hid (∀ i n, l[i]? = some n → ∃ g, a = some ⟨g, 0, none⟩ ∧ w.cell? ⟨g, i * 2, none⟩ = some (.int .i64 n.1) ∧ w.cell? ⟨g, i * 2 + 1, none⟩ = some (.int .i64 n.2)) := fun i n hi => by
    obtain ⟨g, e, c, _⟩ := hn i n hi
    exact ⟨g, e, c 0 _ rfl, c 1 _ rfl⟩
  clear hn hv h
  obtain ⟨N, hNl⟩ : ∃ N, N = l.length := ⟨_, rfl⟩
  rw [← hNl] at hlen ⊢
  have HL : Hid (N = l.length) := hNl
  clear hNl
  go_enter Try.func81, Try.ntmps81
  go_wp2_with fail
  go_loopw [5] (fun i wr => ∃ j : Nat, j ≤ N ∧ i = .int .i64 (j : Int) ∧ Hid (wr = w ∧ ∀ m n, m < j → l[m]? = some n → (fun p : Int × Int => p.1 == k) n = false)) (fun i _ => N - (intOf i).toNat)
  case atStart => exact ⟨0, by omega, rfl, rfl, fun m n hm => by omega⟩
  case round =>
    obtain ⟨j, hj, rfl, hI⟩ := hrel
    obtain rfl : wr = w := hI.out.1
    by_cases hjN : j < N
    · have hjL : j < l.length := by rw [← HL.out]; exact hjN
      obtain ⟨g, rfl, d0, d1⟩ := HN.out j l[j] (List.getElem?_eq_getElem hjL)
      have HX : Hid (l[j]? = some l[j]) := List.getElem?_eq_getElem hjL
      generalize l[j] = n at *
      by_cases e : n.1 = k
      · have t1 : (n.1 == k) = true := by simpa using e
        have HE : Hid ((fun p : Int × Int => p.1 == k) n = true) := t1
        clear e
        go_wp2_with fail
        go_ret
        exact ⟨rfl, show Ending.returned (.int .i64 n.2) = _ by rw [witI_some (find_at HX.out HE.out hI.out.2)]⟩
      · have t1 : (n.1 == k) = false := by simpa using e
        have HE : Hid ((fun p : Int × Int => p.1 == k) n = false) := t1
        clear e
        go_wp2_with fail
        go_roundw
        case rel =>
          refine ⟨j + 1, by omega, by go_num, trivial, fun m n' hm hn' => ?_⟩
          by_cases em : m = j
          · subst em
            rw [HX.out] at hn'
            cases hn'
            exact HE.out
          · exact hI.out.2 m n' (by omega) hn'
        case measure => simp [intOf]; omega
    · obtain rfl : j = N := by omega
      go_wp2_with fail
      go_ret
      exact ⟨rfl, show Ending.returned (.int .i64 (-1)) = _ by rw [witI_none (find_no (fun m n hm => hI.out.2 m n (by rw [HL.out]; exact hm)))]⟩

set_option maxRecDepth 100000 in
set_option maxHeartbeats 2000000 in
theorem dof_any (w : World) (B : Nat) (v : Value) (l : List (Int × Int)) (h : FQp B w v l) (hlen : l.length ≤ 100000) (k : Int) :
    Calls Try.prog 80 #[v, .int .i64 k] w fun e w' => w' = w ∧ e = .returned (.int .i64 (ofI l k)) := by
  obtain ⟨a, cap, hv, hn⟩ := h.form enc2_len
  rw [hv]
  have HN : Hid (∀ i n, l[i]? = some n → ∃ g, a = some ⟨g, 0, none⟩ ∧ w.cell? ⟨g, i * 2, none⟩ = some (.int .i64 n.1) ∧ w.cell? ⟨g, i * 2 + 1, none⟩ = some (.int .i64 n.2)) := fun i n hi => by
    obtain ⟨g, e, c, _⟩ := hn i n hi
    exact ⟨g, e, c 0 _ rfl, c 1 _ rfl⟩
  clear hn hv h
  obtain ⟨N, hNl⟩ : ∃ N, N = l.length := ⟨_, rfl⟩
  rw [← hNl] at hlen ⊢
  have HL : Hid (N = l.length) := hNl
  clear hNl
  go_enter Try.func80, Try.ntmps80
  go_wp2_with fail
  go_loopw [5] (fun i wr => ∃ j : Nat, j ≤ N ∧ i = .int .i64 (j : Int) ∧ Hid (wr = w ∧ ∀ m n, m < j → l[m]? = some n → (fun p : Int × Int => p.2 == k) n = false)) (fun i _ => N - (intOf i).toNat)
  case atStart => exact ⟨0, by omega, rfl, rfl, fun m n hm => by omega⟩
  case round =>
    obtain ⟨j, hj, rfl, hI⟩ := hrel
    obtain rfl : wr = w := hI.out.1
    by_cases hjN : j < N
    · have hjL : j < l.length := by rw [← HL.out]; exact hjN
      obtain ⟨g, rfl, d0, d1⟩ := HN.out j l[j] (List.getElem?_eq_getElem hjL)
      have HX : Hid (l[j]? = some l[j]) := List.getElem?_eq_getElem hjL
      generalize l[j] = n at *
      by_cases e : n.2 = k
      · have t1 : (n.2 == k) = true := by simpa using e
        have HE : Hid ((fun p : Int × Int => p.2 == k) n = true) := t1
        clear e
        go_wp2_with fail
        go_ret
        exact ⟨rfl, show Ending.returned (.int .i64 n.1) = _ by rw [ofI_some (find_at HX.out HE.out hI.out.2)]⟩
      · have t1 : (n.2 == k) = false := by simpa using e
        have HE : Hid ((fun p : Int × Int => p.2 == k) n = false) := t1
        clear e
        go_wp2_with fail
        go_roundw
        case rel =>
          refine ⟨j + 1, by omega, by go_num, trivial, fun m n' hm hn' => ?_⟩
          by_cases em : m = j
          · subst em
            rw [HX.out] at hn'
            cases hn'
            exact HE.out
          · exact hI.out.2 m n' (by omega) hn'
        case measure => simp [intOf]; omega
    · obtain rfl : j = N := by omega
      go_wp2_with fail
      go_ret
      exact ⟨rfl, show Ending.returned (.int .i64 (-1)) = _ by rw [ofI_none (find_no (fun m n hm => hI.out.2 m n (by rw [HL.out]; exact hm)))]⟩

end Go.Proofs.Ytjobdfkfongjaaa

/- IpDocB -/
namespace Go.Proofs.Ytjobdfkfongjaaa
open Go.RowKit Go.Maps Go.WideMaps

/-- From (w, q) to (w', q'), where D' stands. -/
structure ChgD (w : World) (q : Db) (w' : World) (q' : Db) (D' : Dc) : Prop where
  is : IsD w' q' D'
  fr : Fr q.s w w'
  new : ∀ k, q'.s k → q.s k ∨ w.heap.size ≤ k
  eb : q'.b = q.b
section
variable {w w' w1 : World} {q q1 q2 : Db} {D D' : Dc}
theorem ChgD.same (h : IsD w q D) (f : Fr none' w w') : ChgD w q w' q D := ⟨h.keep0 f, f.mono (fun _ _ h => h.elim), fun _ h => Or.inl h, rfl⟩
theorem ChgD.trans {D1 : Dc} {w2 : World} (h : ChgD w q w1 q1 D1) (k : ChgD w1 q1 w2 q2 D') : ChgD w q w2 q2 D' := by
  refine ⟨k.is, ⟨k.fr.os.trans h.fr.os, k.fr.tape.trans h.fr.tape, k.fr.output.trans h.fr.output, Nat.le_trans h.fr.size k.fr.size, fun i hi hn => ?_⟩, fun i hi => ?_, k.eb.trans h.eb⟩
  · refine (k.fr.block i (Nat.lt_of_lt_of_le hi h.fr.size) (fun e => ?_)).trans (h.fr.block i hi hn)
    rcases h.new i e with h1 | h1
    · exact hn h1
    · omega
  · rcases k.new i hi with h1 | h1
    · exact h.new i h1
    · have := h.fr.size
      exact Or.inr (by omega)
theorem ChgD.after {w2 : World} (h : ChgD w q w1 q1 D') (f : Fr none' w1 w2) : ChgD w q w2 q1 D' := h.trans (ChgD.same h.is f)
theorem ChgD.before {w0 : World} (f : Fr none' w0 w) (h0 : IsD w0 q D) (h : ChgD w q w' q1 D') : ChgD w0 q w' q1 D' := (ChgD.same h0 f).trans h
theorem fl_set {α : Type} {enc : α → List Value} {e : TypeId} {k B : Nat} {v : Value} {l : List α} (h : FL e k enc B w v l) {b i : Nat} {x : Value} {cs : Array Value} {ty : TypeId} (r : Row w b cs ty) (ht : ty ≠ e) : FL e k enc B (w.setCell ⟨b, i, none⟩ x) v l :=
  h.at fun j hj hl => (fr_set w b i x (Fr.refl _ w)).block j hl (fun e' => by
    have e' : j = b := e'
    subst e'
    obtain ⟨_, _, cur, r'⟩ := h.blk hj
    exact ht (row_ty r r').1)
theorem fl_other {α β : Type} {enc : α → List Value} {enc' : β → List Value} {e e' : TypeId} {k k' B B' : Nat} {v v' : Value} {l : List α} {l' : List β} (h : FL e k enc B w v l) (h' : FL e' k' enc' B' w v' l') (ht : e ≠ e') (f : Fr (fun q => some q = v'.ownBlock) w w1) : FL e k enc B w1 v l :=
  h.at fun j hj hl => f.block j hl (fun e2 => by
    obtain ⟨_, _, cur, r⟩ := h.blk hj
    obtain ⟨_, _, cur', r'⟩ := h'.blk e2
    exact ht (row_ty r r').1)
theorem fl_same {α : Type} {enc : α → List Value} {e : TypeId} {k B : Nat} {v v' : Value} {l : List α} (h : FL e k enc B w v l) (ha : ∀ k, some k = v.ownBlock → some k = v'.ownBlock → False) (f : Fr (fun q => some q = v'.ownBlock) w w1) : FL e k enc B w1 v l :=
  h.at fun j hj hl => f.block j hl (fun e2 => ha j hj e2)
/-- The slice L turned. -/
theorem IsD.setL (h : IsD w q D) (f : Fr (fun k => some k = q.L.ownBlock) w w1) {v : Value} {l : List _} (hv : FQw 0 w1 v l) (hn : ∀ k, some k = v.ownBlock → some k = q.L.ownBlock ∨ w.heap.size ≤ k) : ChgD w q (w1.setCell ⟨q.b, 0, none⟩ v) { q with L := v } { D with L := l } := by
  have rb : Row w1 q.b #[q.L, q.C, q.B, q.G, q.X] 31 := h.row.keep f (fun e => by
    obtain ⟨_, _, cur, r⟩ := h.l.blk e
    exact absurd (row_ty h.row r).1 (by decide))
  have f5 := fr_set w1 q.b 0 v (Fr.refl (at' q.b) w1)
  refine ⟨⟨rb.setCell 0 v, fl_set hv rb (by decide), fl_set (fl_other h.c h.l (by decide) f) rb (by decide), fl_set (fl_other h.b h.l (by decide) f) rb (by decide), fl_set (fl_other h.g h.l (by decide) f) rb (by decide), fl_set (fl_other h.x h.l (by decide) f) rb (by decide), h.cb, h.cg, h.bg⟩, (f.mono (fun k _ e => Or.inr (Or.inl e))).trans (f5.mono (fun k _ e => Or.inl e)), fun k hk => ?_, rfl⟩
  rcases hk with e | e | e | e | e | e
  · exact Or.inl (Or.inl e)
  · rcases hn k e with e | e
    · exact Or.inl (Or.inr (Or.inl e))
    · exact Or.inr e
  · exact Or.inl (Or.inr (Or.inr (Or.inl e)))
  · exact Or.inl (Or.inr (Or.inr (Or.inr (Or.inl e))))
  · exact Or.inl (Or.inr (Or.inr (Or.inr (Or.inr (Or.inl e)))))
  · exact Or.inl (Or.inr (Or.inr (Or.inr (Or.inr (Or.inr (e))))))
/-- The slice C turned. -/
theorem IsD.setC (h : IsD w q D) (f : Fr (fun k => some k = q.C.ownBlock) w w1) {v : Value} {l : List _} (hv : FQp 0 w1 v l) (hn : ∀ k, some k = v.ownBlock → some k = q.C.ownBlock ∨ w.heap.size ≤ k) : ChgD w q (w1.setCell ⟨q.b, 1, none⟩ v) { q with C := v } { D with C := l } := by
  have rb : Row w1 q.b #[q.L, q.C, q.B, q.G, q.X] 31 := h.row.keep f (fun e => by
    obtain ⟨_, _, cur, r⟩ := h.c.blk e
    exact absurd (row_ty h.row r).1 (by decide))
  have f5 := fr_set w1 q.b 1 v (Fr.refl (at' q.b) w1)
  refine ⟨⟨rb.setCell 1 v, fl_set (fl_other h.l h.c (by decide) f) rb (by decide), fl_set hv rb (by decide), fl_set (fl_same h.b (fun k x y => h.cb k y x) f) rb (by decide), fl_set (fl_same h.g (fun k x y => h.cg k y x) f) rb (by decide), fl_set (fl_other h.x h.c (by decide) f) rb (by decide), (fun k x y => (hn k x).elim (fun x => h.cb k x y) (fun x => by have := (h.b.blk y).2.1; omega)), (fun k x y => (hn k x).elim (fun x => h.cg k x y) (fun x => by have := (h.g.blk y).2.1; omega)), h.bg⟩, (f.mono (fun k _ e => Or.inr (Or.inr (Or.inl e)))).trans (f5.mono (fun k _ e => Or.inl e)), fun k hk => ?_, rfl⟩
  rcases hk with e | e | e | e | e | e
  · exact Or.inl (Or.inl e)
  · exact Or.inl (Or.inr (Or.inl e))
  · rcases hn k e with e | e
    · exact Or.inl (Or.inr (Or.inr (Or.inl e)))
    · exact Or.inr e
  · exact Or.inl (Or.inr (Or.inr (Or.inr (Or.inl e))))
  · exact Or.inl (Or.inr (Or.inr (Or.inr (Or.inr (Or.inl e)))))
  · exact Or.inl (Or.inr (Or.inr (Or.inr (Or.inr (Or.inr (e))))))
/-- The slice B turned. -/
theorem IsD.setB (h : IsD w q D) (f : Fr (fun k => some k = q.B.ownBlock) w w1) {v : Value} {l : List _} (hv : FQp 0 w1 v l) (hn : ∀ k, some k = v.ownBlock → some k = q.B.ownBlock ∨ w.heap.size ≤ k) : ChgD w q (w1.setCell ⟨q.b, 2, none⟩ v) { q with B := v } { D with B := l } := by
  have rb : Row w1 q.b #[q.L, q.C, q.B, q.G, q.X] 31 := h.row.keep f (fun e => by
    obtain ⟨_, _, cur, r⟩ := h.b.blk e
    exact absurd (row_ty h.row r).1 (by decide))
  have f5 := fr_set w1 q.b 2 v (Fr.refl (at' q.b) w1)
  refine ⟨⟨rb.setCell 2 v, fl_set (fl_other h.l h.b (by decide) f) rb (by decide), fl_set (fl_same h.c h.cb f) rb (by decide), fl_set hv rb (by decide), fl_set (fl_same h.g (fun k x y => h.bg k y x) f) rb (by decide), fl_set (fl_other h.x h.b (by decide) f) rb (by decide), (fun k x y => (hn k y).elim (fun y => h.cb k x y) (fun y => by have := (h.c.blk x).2.1; omega)), h.cg, (fun k x y => (hn k x).elim (fun x => h.bg k x y) (fun x => by have := (h.g.blk y).2.1; omega))⟩, (f.mono (fun k _ e => Or.inr (Or.inr (Or.inr (Or.inl e))))).trans (f5.mono (fun k _ e => Or.inl e)), fun k hk => ?_, rfl⟩
  rcases hk with e | e | e | e | e | e
  · exact Or.inl (Or.inl e)
  · exact Or.inl (Or.inr (Or.inl e))
  · exact Or.inl (Or.inr (Or.inr (Or.inl e)))
  · rcases hn k e with e | e
    · exact Or.inl (Or.inr (Or.inr (Or.inr (Or.inl e))))
    · exact Or.inr e
  · exact Or.inl (Or.inr (Or.inr (Or.inr (Or.inr (Or.inl e)))))
  · exact Or.inl (Or.inr (Or.inr (Or.inr (Or.inr (Or.inr (e))))))
/-- The slice G turned. -/
theorem IsD.setG (h : IsD w q D) (f : Fr (fun k => some k = q.G.ownBlock) w w1) {v : Value} {l : List _} (hv : FQp 0 w1 v l) (hn : ∀ k, some k = v.ownBlock → some k = q.G.ownBlock ∨ w.heap.size ≤ k) : ChgD w q (w1.setCell ⟨q.b, 3, none⟩ v) { q with G := v } { D with G := l } := by
  have rb : Row w1 q.b #[q.L, q.C, q.B, q.G, q.X] 31 := h.row.keep f (fun e => by
    obtain ⟨_, _, cur, r⟩ := h.g.blk e
    exact absurd (row_ty h.row r).1 (by decide))
  have f5 := fr_set w1 q.b 3 v (Fr.refl (at' q.b) w1)
  refine ⟨⟨rb.setCell 3 v, fl_set (fl_other h.l h.g (by decide) f) rb (by decide), fl_set (fl_same h.c h.cg f) rb (by decide), fl_set (fl_same h.b h.bg f) rb (by decide), fl_set hv rb (by decide), fl_set (fl_other h.x h.g (by decide) f) rb (by decide), h.cb, (fun k x y => (hn k y).elim (fun y => h.cg k x y) (fun y => by have := (h.c.blk x).2.1; omega)), (fun k x y => (hn k y).elim (fun y => h.bg k x y) (fun y => by have := (h.b.blk x).2.1; omega))⟩, (f.mono (fun k _ e => Or.inr (Or.inr (Or.inr (Or.inr (Or.inl e)))))).trans (f5.mono (fun k _ e => Or.inl e)), fun k hk => ?_, rfl⟩
  rcases hk with e | e | e | e | e | e
  · exact Or.inl (Or.inl e)
  · exact Or.inl (Or.inr (Or.inl e))
  · exact Or.inl (Or.inr (Or.inr (Or.inl e)))
  · exact Or.inl (Or.inr (Or.inr (Or.inr (Or.inl e))))
  · rcases hn k e with e | e
    · exact Or.inl (Or.inr (Or.inr (Or.inr (Or.inr (Or.inl e)))))
    · exact Or.inr e
  · exact Or.inl (Or.inr (Or.inr (Or.inr (Or.inr (Or.inr (e))))))
/-- The slice X turned. -/
theorem IsD.setX (h : IsD w q D) (f : Fr (fun k => some k = q.X.ownBlock) w w1) {v : Value} {l : List _} (hv : FQx 0 w1 v l) (hn : ∀ k, some k = v.ownBlock → some k = q.X.ownBlock ∨ w.heap.size ≤ k) : ChgD w q (w1.setCell ⟨q.b, 4, none⟩ v) { q with X := v } { D with X := l } := by
  have rb : Row w1 q.b #[q.L, q.C, q.B, q.G, q.X] 31 := h.row.keep f (fun e => by
    obtain ⟨_, _, cur, r⟩ := h.x.blk e
    exact absurd (row_ty h.row r).1 (by decide))
  have f5 := fr_set w1 q.b 4 v (Fr.refl (at' q.b) w1)
  refine ⟨⟨rb.setCell 4 v, fl_set (fl_other h.l h.x (by decide) f) rb (by decide), fl_set (fl_other h.c h.x (by decide) f) rb (by decide), fl_set (fl_other h.b h.x (by decide) f) rb (by decide), fl_set (fl_other h.g h.x (by decide) f) rb (by decide), fl_set hv rb (by decide), h.cb, h.cg, h.bg⟩, (f.mono (fun k _ e => Or.inr (Or.inr (Or.inr (Or.inr (Or.inr (e))))))).trans (f5.mono (fun k _ e => Or.inl e)), fun k hk => ?_, rfl⟩
  rcases hk with e | e | e | e | e | e
  · exact Or.inl (Or.inl e)
  · exact Or.inl (Or.inr (Or.inl e))
  · exact Or.inl (Or.inr (Or.inr (Or.inl e)))
  · exact Or.inl (Or.inr (Or.inr (Or.inr (Or.inl e))))
  · exact Or.inl (Or.inr (Or.inr (Or.inr (Or.inr (Or.inl e)))))
  · rcases hn k e with e | e
    · exact Or.inl (Or.inr (Or.inr (Or.inr (Or.inr (Or.inr (e))))))
    · exact Or.inr e
end

end Go.Proofs.Ytjobdfkfongjaaa

/- IpDocC -/
namespace Go.Proofs.Ytjobdfkfongjaaa
open Go.RowKit Go.Maps Go.WideMaps

section
variable {α : Type} {enc : α → List Value} {e T : TypeId} {k B bytes : Nat} {z : Value} {w wr : World} {v0 v : Value} {l : List α} {p : α → Bool}
theorem fil_no {j : Nat} {x : α} (hx : l[j]? = some x) (hp : p x = false) : (l.take (j + 1)).filter p = (l.take j).filter p := by
  rw [List.take_add_one, hx, List.filter_append]
  simp [hp]
theorem fil_yes {j : Nat} {x : α} (hx : l[j]? = some x) (hp : p x = true) : (l.take (j + 1)).filter p = (l.take j).filter p ++ [x] := by
  rw [List.take_add_one, hx, List.filter_append]
  simp [hp]
theorem fil_round (hT : Try.prog.underlying T = some (.slice e)) (hi : (Try.prog.info? e).map (fun i => (i.zero, i.size, i.bytes)) = some (some z, k, bytes)) (hz : z.cells.size = k) (hk0 : 0 < k) (hb8 : bytes ≤ 1000) (hk : ∀ x, (enc x).length = k) (h1 : ∀ x u, u ∈ enc x → u.oneCell' = true)
    (f : Fr none' w wr) {j : Nat} {x : α} (hx : l[j]? = some x) (hp : p x = true) (hl : l.length ≤ 100000) (h : FL e k enc w.heap.size wr v ((l.take j).filter p)) :
    ∃ va vn vc w2, (App #[T, T] T #[v, .slice (some ⟨wr.heap.size, 0, none⟩) 1 1]).run Try.prog (wr.alloc (.cells (enc x).toArray e)) = .ok (.slice va vn vc) w2 ∧ Fr none' w w2 ∧ FL e k enc w.heap.size w2 (.slice va vn vc) ((l.take (j + 1)).filter p) ∧ ∀ q cs ty, Row wr q cs ty → ty ≠ e → Row w2 q cs ty := by
  have hb : ((l.take j).filter p).length ≤ 100000 := by
    have := List.length_filter_le p (l.take j)
    rw [List.length_take] at this
    omega
  obtain ⟨v', w2, g1, g2, g3, _⟩ := FL.app (T := T) hT hi hz hk0 hb8 hk h1 h hb f.size x
  obtain ⟨va, vn, vc, rfl⟩ : ∃ a n c, v' = .slice a n c := by
    rcases g3.2 with h' | ⟨g, cap, _, h', _⟩
    · exact ⟨_, _, _, h'.1⟩
    · exact ⟨_, _, _, h'⟩
  exact ⟨va, vn, vc, w2, g1, fr_high f g2 (fun q hq => (h.blk hq).1), by rw [fil_yes hx hp]; exact g3, fun q cs ty r ht => r.keep g2 (fun e2 => by
    obtain ⟨_, _, cur, r'⟩ := h.blk e2
    exact ht (row_ty r r').1)⟩
end

section
attribute [local go_sem ↓ high] builtin_app

set_option maxRecDepth 100000 in
set_option maxHeartbeats 4000000 in
theorem dwithout_any (w : World) (B : Nat) (v : Value) (l : List (Int × Int)) (h : FQp B w v l) (hlen : l.length ≤ 100000) (k : Int) :
    Calls Try.prog 82 #[v, .int .i64 k] w fun e w' => ∃ xa xn xc, e = .returned (.slice xa xn xc) ∧ Fr none' w w' ∧ FQp w.heap.size w' (.slice xa xn xc) (l.filter (fun y => y.1 != k)) := by
  obtain ⟨a, cap, hv, hn⟩ := h.form enc2_len
  obtain ⟨N, hNl⟩ : ∃ N, N = l.length := ⟨_, rfl⟩
  have HN : Hid (∀ wr, Fr none' w wr → ∀ i n, l[i]? = some n → ∃ g, a = some ⟨g, 0, none⟩ ∧ wr.cell? ⟨g, i * 2, none⟩ = some (.int .i64 n.1) ∧ wr.cell? ⟨g, i * 2 + 1, none⟩ = some (.int .i64 n.2)) := fun wr f => by
    obtain ⟨a', cap', hv', hn'⟩ := (FL.keep0 h f).form enc2_len
    rw [hv] at hv'
    cases hv'
    exact fun i n hi => by
      obtain ⟨g, e, c, _⟩ := hn' i n hi
      exact ⟨g, e, c 0 _ rfl, c 1 _ rfl⟩
  have HR : Hid (∀ wr xa xn xc j n, Fr none' w wr → l[j]? = some n → (fun y => y.1 != k) n = true → FQp w.heap.size wr (.slice xa xn xc) ((l.take j).filter (fun y => y.1 != k)) → ∃ va vn vc w2, (App #[28, 28] 28 #[.slice xa xn xc, .slice (some ⟨wr.heap.size, 0, none⟩) 1 1]).run Try.prog (wr.alloc (.cells #[.int .i64 n.1, .int .i64 n.2] 111)) = .ok (.slice va vn vc) w2 ∧ Fr none' w w2 ∧ FQp w.heap.size w2 (.slice va vn vc) ((l.take (j + 1)).filter (fun y => y.1 != k)) ∧ ∀ q cs ty, Row wr q cs ty → ty ≠ 111 → Row w2 q cs ty) := fun wr xa xn xc j n f hx hp hF => fil_round (T := 28) Try.underlying28 info_q2 rfl (by omega) (by omega) enc2_len enc2_one f hx hp hlen hF
  rw [hv]
  rw [← hNl]
  rw [← hNl] at hlen
  have HL : Hid (N = l.length) := hNl

  clear hNl hv hn h
  go_enter Try.func82, Try.ntmps82
  go_wp2_with fail
  go_loopw [5, 6] (fun u i wr => ∃ j : Nat, j ≤ N ∧ i = .int .i64 (j : Int) ∧ ∃ xa xn xc, u = .slice xa xn xc ∧ Hid (Fr none' w wr ∧ FQp w.heap.size wr (.slice xa xn xc) ((l.take j).filter (fun y => y.1 != k)))) (fun _ i _ => N - (intOf i).toNat)
  case atStart => exact ⟨0, by omega, rfl, _, _, _, rfl, Fr.refl _ _, fl_nil _ _ _ _ _⟩
  case round =>
    obtain ⟨j, hj, rfl, xa, xn, xc, rfl, hI⟩ := hrel
    have hcell := HN.out wr hI.out.1
    
    by_cases hjN : j < N
    · have hjL : j < l.length := by rw [← HL.out]; exact hjN
      obtain ⟨g, rfl, d0, d1⟩ := hcell j l[j] (List.getElem?_eq_getElem hjL)
      have HX : Hid (l[j]? = some l[j]) := List.getElem?_eq_getElem hjL
      clear hcell
      generalize l[j] = n at *
      by_cases e : n.1 = k
      · have t1 : (n.1 == k) = true := by simpa using e
        have t2 : (n.1 != k) = false := by simpa using e
        have HE : Hid ((l.take (j + 1)).filter (fun y => y.1 != k) = (l.take j).filter (fun y => y.1 != k)) := fil_no HX.out t2
        clear e
        go_wp2_with fail
        go_roundw
        case rel => exact ⟨j + 1, by omega, by go_num, xa, xn, xc, rfl, hI.out.1, by rw [HE.out]; exact hI.out.2⟩
        case measure => simp [intOf]; omega
      · have t1 : (n.1 == k) = false := by simpa using e
        have t2 : (n.1 != k) = true := by simpa using e
        obtain ⟨va, vn, vc, w2, hrun, F2, o2, k2⟩ := HR.out wr xa xn xc j n hI.out.1 HX.out t2 hI.out.2
        have HE : Hid (Fr none' w w2 ∧ FQp w.heap.size w2 (.slice va vn vc) ((l.take (j + 1)).filter (fun y => y.1 != k))) := ⟨F2, o2⟩
        clear e F2 o2 k2
        go_wp2_with fail
        go_roundw
        case rel => exact ⟨j + 1, by omega, by go_num, va, vn, vc, rfl, HE.out.1, HE.out.2⟩
        case measure => simp [intOf]; omega
    · obtain rfl : j = N := by omega
      clear hcell
      have HZ : Hid (Fr none' w wr ∧ FQp w.heap.size wr (.slice xa xn xc) (l.filter (fun y => y.1 != k))) := ⟨hI.out.1, by have := hI.out.2; rw [HL.out, List.take_length] at this; exact this⟩
      go_wp2_with fail
      go_ret
      exact ⟨xa, xn, xc, rfl, HZ.out.1, HZ.out.2⟩

set_option maxRecDepth 100000 in
set_option maxHeartbeats 4000000 in
theorem drest_any (w : World) (q : Db) (D : Dc) (h0 : IsD w q D) (hlen : D.L.length ≤ 100000) (t : Int) :
    Calls Try.prog 76 #[pv q.b, .int .i64 t] w fun e w' => ∃ v q', e = .returned v ∧ ChgD w q w' q' { D with L := D.L.filter (fun y => y.t != t) } := by
  obtain ⟨a, cap, hv, hn⟩ := h0.l.form encQ_len
  have h := h0.l
  have HB : Hid (∀ wr, Fr none' w wr → wr.cell? ⟨q.b, 0, none⟩ = some (.slice a D.L.length cap)) := fun wr f => by
    have := (h0.row.keep f (fun h => h)).cell 0
    rw [← hv]
    exact this
  have HQ : Hid (∀ wr xa xn xc l', Fr none' w wr → FQw w.heap.size wr (.slice xa xn xc) l' → wr.frozen? ⟨q.b, 0, none⟩ = false ∧ ∃ q', ChgD w q (wr.setCell ⟨q.b, 0, none⟩ (.slice xa xn xc)) q' { D with L := l' }) := fun wr xa xn xc l' f hF => ⟨(h0.row.keep f (fun h => h)).frozen 0, _, h0.setL (f.mono (fun _ _ h => h.elim)) (hF.low (Nat.zero_le _)) (fun k hk => Or.inr (hF.blk hk).1)⟩
  have hHD : Hid (D.L = D.L) := rfl
  clear h0
  generalize hDl : D.L = l at *
  obtain ⟨N, hNl⟩ : ∃ N, N = l.length := ⟨_, rfl⟩
  have HN : Hid (∀ wr, Fr none' w wr → wr.cell? ⟨q.b, 0, none⟩ = some (.slice a N cap) ∧ ∀ i n, l[i]? = some n → ∃ g, a = some ⟨g, 0, none⟩ ∧ wr.cell? ⟨g, i * 11, none⟩ = some (.int .i64 n.t) ∧ wr.cell? ⟨g, i * 11 + 1, none⟩ = some (.int .i64 n.s) ∧ wr.cell? ⟨g, i * 11 + 2, none⟩ = some (.int .i64 n.o) ∧ wr.cell? ⟨g, i * 11 + 3, none⟩ = some (.int .i64 n.m.l) ∧ wr.cell? ⟨g, i * 11 + 4, none⟩ = some (.int .i64 n.m.b) ∧ wr.cell? ⟨g, i * 11 + 5, none⟩ = some (.int .i64 n.m.n) ∧ wr.cell? ⟨g, i * 11 + 6, none⟩ = some (.int .u32 n.m.w0) ∧ wr.cell? ⟨g, i * 11 + 7, none⟩ = some (.int .u32 n.m.w1) ∧ wr.cell? ⟨g, i * 11 + 8, none⟩ = some (.int .u32 n.m.w2) ∧ wr.cell? ⟨g, i * 11 + 9, none⟩ = some (.int .u32 n.m.w3) ∧ wr.cell? ⟨g, i * 11 + 10, none⟩ = some (.bool n.c)) := fun wr f => by
    obtain ⟨a', cap', hv', hn'⟩ := (FL.keep0 h f).form encQ_len
    rw [hv] at hv'
    cases hv'
    exact ⟨by rw [hNl]; exact HB.out wr f, fun i n hi => by
      obtain ⟨g, e, c, _⟩ := hn' i n hi
      exact ⟨g, e, c 0 _ rfl, c 1 _ rfl, c 2 _ rfl, c 3 _ rfl, c 4 _ rfl, c 5 _ rfl, c 6 _ rfl, c 7 _ rfl, c 8 _ rfl, c 9 _ rfl, c 10 _ rfl⟩⟩
  have HR : Hid (∀ wr xa xn xc j n, Fr none' w wr → l[j]? = some n → (fun y => y.t != t) n = true → FQw w.heap.size wr (.slice xa xn xc) ((l.take j).filter (fun y => y.t != t)) → ∃ va vn vc w2, (App #[27, 27] 27 #[.slice xa xn xc, .slice (some ⟨wr.heap.size, 0, none⟩) 1 1]).run Try.prog (wr.alloc (.cells #[.int .i64 n.t, .int .i64 n.s, .int .i64 n.o, .int .i64 n.m.l, .int .i64 n.m.b, .int .i64 n.m.n, .int .u32 n.m.w0, .int .u32 n.m.w1, .int .u32 n.m.w2, .int .u32 n.m.w3, .bool n.c] 103)) = .ok (.slice va vn vc) w2 ∧ Fr none' w w2 ∧ FQw w.heap.size w2 (.slice va vn vc) ((l.take (j + 1)).filter (fun y => y.t != t)) ∧ ∀ q cs ty, Row wr q cs ty → ty ≠ 103 → Row w2 q cs ty) := fun wr xa xn xc j n f hx hp hF => fil_round (T := 27) Try.underlying27 info_qw rfl (by omega) (by omega) encQ_len encQ_one f hx hp hlen hF
  
  
  rw [← hNl] at hlen
  have HL : Hid (N = l.length) := hNl
  obtain ⟨c0, _⟩ := HN.out w (Fr.refl _ _)
  clear hNl hv hn h
  go_enter Try.func76, Try.ntmps76
  go_wp2_with fail
  go_loopw [4, 5] (fun u i wr => ∃ j : Nat, j ≤ N ∧ i = .int .i64 (j : Int) ∧ ∃ xa xn xc, u = .slice xa xn xc ∧ Hid (Fr none' w wr ∧ FQw w.heap.size wr (.slice xa xn xc) ((l.take j).filter (fun y => y.t != t)))) (fun _ i _ => N - (intOf i).toNat)
  case atStart => exact ⟨0, by omega, rfl, _, _, _, rfl, Fr.refl _ _, fl_nil _ _ _ _ _⟩
  case round =>
    obtain ⟨j, hj, rfl, xa, xn, xc, rfl, hI⟩ := hrel
    obtain ⟨d00, hcell⟩ := HN.out wr hI.out.1
    
    by_cases hjN : j < N
    · have hjL : j < l.length := by rw [← HL.out]; exact hjN
      obtain ⟨g, rfl, d0, d1, d2, d3, d4, d5, d6, d7, d8, d9, d10⟩ := hcell j l[j] (List.getElem?_eq_getElem hjL)
      have HX : Hid (l[j]? = some l[j]) := List.getElem?_eq_getElem hjL
      clear hcell
      generalize l[j] = n at *
      by_cases e : n.t = t
      · have t1 : (n.t == t) = true := by simpa using e
        have t2 : (n.t != t) = false := by simpa using e
        have HE : Hid ((l.take (j + 1)).filter (fun y => y.t != t) = (l.take j).filter (fun y => y.t != t)) := fil_no HX.out t2
        clear e
        go_wp2_with fail
        go_roundw
        case rel => exact ⟨j + 1, by omega, by go_num, xa, xn, xc, rfl, hI.out.1, by rw [HE.out]; exact hI.out.2⟩
        case measure => simp [intOf]; omega
      · have t1 : (n.t == t) = false := by simpa using e
        have t2 : (n.t != t) = true := by simpa using e
        obtain ⟨va, vn, vc, w2, hrun, F2, o2, k2⟩ := HR.out wr xa xn xc j n hI.out.1 HX.out t2 hI.out.2
        have HE : Hid (Fr none' w w2 ∧ FQw w.heap.size w2 (.slice va vn vc) ((l.take (j + 1)).filter (fun y => y.t != t))) := ⟨F2, o2⟩
        clear e F2 o2 k2
        go_wp2_with fail
        go_roundw
        case rel => exact ⟨j + 1, by omega, by go_num, va, vn, vc, rfl, HE.out.1, HE.out.2⟩
        case measure => simp [intOf]; omega
    · obtain rfl : j = N := by omega
      clear hcell
      have HZ : Hid (Fr none' w wr ∧ FQw w.heap.size wr (.slice xa xn xc) (l.filter (fun y => y.t != t))) := ⟨hI.out.1, by have := hI.out.2; rw [HL.out, List.take_length] at this; exact this⟩
      obtain ⟨z0, q', hq⟩ := HQ.out wr xa xn xc _ HZ.out.1 HZ.out.2
      have HC : Hid _ := hq
      clear hq
      go_wp2_with fail
      refine post_void rfl rfl fun v => ?_
      exact ⟨v, q', rfl, HC.out⟩

set_option maxRecDepth 100000 in
set_option maxHeartbeats 4000000 in
theorem ddeliver_any (w : World) (q : Db) (D : Dc) (h0 : IsD w q D) (hlen : D.X.length ≤ 100000) (t : Int) (m : Ms) :
    Calls Try.prog 77 #[pv q.b, .int .i64 t, msV m] w fun e w' => ∃ v q', e = .returned v ∧ ChgD w q w' q' { D with X := D.X.filter (fun y => y.1 != t) ++ [(t, m)] } := by
  obtain ⟨a, cap, hv, hn⟩ := h0.x.form encB_len
  have h := h0.x
  have HB : Hid (∀ wr, Fr none' w wr → wr.cell? ⟨q.b, 4, none⟩ = some (.slice a D.X.length cap)) := fun wr f => by
    have := (h0.row.keep f (fun h => h)).cell 4
    rw [← hv]
    exact this
  have HQ : Hid (∀ wr xa xn xc l', Fr none' w wr → FQx w.heap.size wr (.slice xa xn xc) l' → wr.frozen? ⟨q.b, 4, none⟩ = false ∧ ∃ q', ChgD w q (wr.setCell ⟨q.b, 4, none⟩ (.slice xa xn xc)) q' { D with X := l' }) := fun wr xa xn xc l' f hF => ⟨(h0.row.keep f (fun h => h)).frozen 4, _, h0.setX (f.mono (fun _ _ h => h.elim)) (hF.low (Nat.zero_le _)) (fun k hk => Or.inr (hF.blk hk).1)⟩
  have HF0 : Hid (Fr none' w (w.alloc (.cells (msA m) 36))) := (Fr.refl none' w).alloc _
  have HB0 : Hid (Row (w.alloc (.cells (msA m) 36)) w.heap.size (msA m) 36) := row_alloc _ _ _
  clear h0
  generalize hDl : D.X = l at *
  obtain ⟨N, hNl⟩ : ∃ N, N = l.length := ⟨_, rfl⟩
  have HN : Hid (∀ wr, Fr none' w wr → wr.cell? ⟨q.b, 4, none⟩ = some (.slice a N cap) ∧ ∀ i n, l[i]? = some n → ∃ g, a = some ⟨g, 0, none⟩ ∧ wr.cell? ⟨g, i * 8, none⟩ = some (.int .i64 n.1) ∧ wr.cell? ⟨g, i * 8 + 1, none⟩ = some (.int .i64 n.2.l) ∧ wr.cell? ⟨g, i * 8 + 2, none⟩ = some (.int .i64 n.2.b) ∧ wr.cell? ⟨g, i * 8 + 3, none⟩ = some (.int .i64 n.2.n) ∧ wr.cell? ⟨g, i * 8 + 4, none⟩ = some (.int .u32 n.2.w0) ∧ wr.cell? ⟨g, i * 8 + 5, none⟩ = some (.int .u32 n.2.w1) ∧ wr.cell? ⟨g, i * 8 + 6, none⟩ = some (.int .u32 n.2.w2) ∧ wr.cell? ⟨g, i * 8 + 7, none⟩ = some (.int .u32 n.2.w3)) := fun wr f => by
    obtain ⟨a', cap', hv', hn'⟩ := (FL.keep0 h f).form encB_len
    rw [hv] at hv'
    cases hv'
    exact ⟨by rw [hNl]; exact HB.out wr f, fun i n hi => by
      obtain ⟨g, e, c, _⟩ := hn' i n hi
      exact ⟨g, e, c 0 _ rfl, c 1 _ rfl, c 2 _ rfl, c 3 _ rfl, c 4 _ rfl, c 5 _ rfl, c 6 _ rfl, c 7 _ rfl⟩⟩
  have HR : Hid (∀ wr xa xn xc j n, Fr none' w wr → l[j]? = some n → (fun y => y.1 != t) n = true → FQx w.heap.size wr (.slice xa xn xc) ((l.take j).filter (fun y => y.1 != t)) → ∃ va vn vc w2, (App #[29, 29] 29 #[.slice xa xn xc, .slice (some ⟨wr.heap.size, 0, none⟩) 1 1]).run Try.prog (wr.alloc (.cells #[.int .i64 n.1, .int .i64 n.2.l, .int .i64 n.2.b, .int .i64 n.2.n, .int .u32 n.2.w0, .int .u32 n.2.w1, .int .u32 n.2.w2, .int .u32 n.2.w3] 113)) = .ok (.slice va vn vc) w2 ∧ Fr none' w w2 ∧ FQx w.heap.size w2 (.slice va vn vc) ((l.take (j + 1)).filter (fun y => y.1 != t)) ∧ ∀ q cs ty, Row wr q cs ty → ty ≠ 113 → Row w2 q cs ty) := fun wr xa xn xc j n f hx hp hF => fil_round (T := 29) Try.underlying29 info_qx rfl (by omega) (by omega) encB_len encB_one f hx hp hlen hF
  
  
  rw [← hNl] at hlen
  have HL : Hid (N = l.length) := hNl
  obtain ⟨c0, _⟩ := HN.out w (Fr.refl _ _)
  clear hNl hv hn h
  go_enter Try.func77, Try.ntmps77
  go_wp2_with fail
  go_loopw [6, 7] (fun u i wr => ∃ j : Nat, j ≤ N ∧ i = .int .i64 (j : Int) ∧ ∃ xa xn xc, u = .slice xa xn xc ∧ Hid (Fr none' w wr ∧ FQx w.heap.size wr (.slice xa xn xc) ((l.take j).filter (fun y => y.1 != t)) ∧ Row wr w.heap.size (msA m) 36)) (fun _ i _ => N - (intOf i).toNat)
  case atStart => exact ⟨0, by omega, rfl, _, _, _, rfl, HF0.out, fl_nil _ _ _ _ _, HB0.out⟩
  case round =>
    obtain ⟨j, hj, rfl, xa, xn, xc, rfl, hI⟩ := hrel
    obtain ⟨d00, hcell⟩ := HN.out wr hI.out.1
    
    by_cases hjN : j < N
    · have hjL : j < l.length := by rw [← HL.out]; exact hjN
      obtain ⟨g, rfl, d0, d1, d2, d3, d4, d5, d6, d7⟩ := hcell j l[j] (List.getElem?_eq_getElem hjL)
      have HX : Hid (l[j]? = some l[j]) := List.getElem?_eq_getElem hjL
      clear hcell
      generalize l[j] = n at *
      by_cases e : n.1 = t
      · have t1 : (n.1 == t) = true := by simpa using e
        have t2 : (n.1 != t) = false := by simpa using e
        have HE : Hid ((l.take (j + 1)).filter (fun y => y.1 != t) = (l.take j).filter (fun y => y.1 != t)) := fil_no HX.out t2
        clear e
        go_wp2_with fail
        go_roundw
        case rel => exact ⟨j + 1, by omega, by go_num, xa, xn, xc, rfl, hI.out.1, by rw [HE.out]; exact hI.out.2.1, hI.out.2.2⟩
        case measure => simp [intOf]; omega
      · have t1 : (n.1 == t) = false := by simpa using e
        have t2 : (n.1 != t) = true := by simpa using e
        obtain ⟨va, vn, vc, w2, hrun, F2, o2, k2⟩ := HR.out wr xa xn xc j n hI.out.1 HX.out t2 hI.out.2.1
        have HE : Hid (Fr none' w w2 ∧ FQx w.heap.size w2 (.slice va vn vc) ((l.take (j + 1)).filter (fun y => y.1 != t)) ∧ Row w2 w.heap.size (msA m) 36) := ⟨F2, o2, k2 _ _ _ hI.out.2.2 (by decide)⟩
        clear e F2 o2 k2
        go_wp2_with fail
        go_roundw
        case rel => exact ⟨j + 1, by omega, by go_num, va, vn, vc, rfl, HE.out.1, HE.out.2⟩
        case measure => simp [intOf]; omega
    · obtain rfl : j = N := by omega
      clear hcell
      have HZ : Hid (Fr none' w wr ∧ FQx w.heap.size wr (.slice xa xn xc) (l.filter (fun y => y.1 != t)) ∧ Row wr w.heap.size (msA m) 36) := ⟨hI.out.1, by have := hI.out.2.1; rw [HL.out, List.take_length] at this; exact this, hI.out.2.2⟩
      obtain ⟨b0, b1, b2, b3, b4, b5, b6⟩ := box7 HZ.out.2.2
      have hb : (l.filter (fun y => y.1 != t)).length ≤ 100000 := Nat.le_trans (List.length_filter_le _ _) (by rw [← HL.out]; exact hlen)
      obtain ⟨v', w2, hrun0, g2, g3, _⟩ := FL.app (T := 29) Try.underlying29 info_qx rfl (by omega) (by omega) encB_len encB_one HZ.out.2.1 hb HZ.out.1.size (t, m)
      obtain ⟨va, vn, vc, rfl⟩ : ∃ a n c, v' = .slice a n c := by
        rcases g3.2 with h' | ⟨g, cap, _, h', _⟩
        · exact ⟨_, _, _, h'.1⟩
        · exact ⟨_, _, _, h'⟩
      have hrun : (App #[29, 29] 29 #[.slice xa xn xc, .slice (some ⟨wr.heap.size, 0, none⟩) 1 1]).run Try.prog (wr.alloc (.cells #[.int .i64 t, .int .i64 m.l, .int .i64 m.b, .int .i64 m.n, .int .u32 m.w0, .int .u32 m.w1, .int .u32 m.w2, .int .u32 m.w3] 113)) = .ok (.slice va vn vc) w2 := hrun0
      have F2 := fr_high HZ.out.1 g2 (fun q hq => (HZ.out.2.1.blk hq).1)
      obtain ⟨z0, q', hq⟩ := HQ.out w2 va vn vc _ F2 g3
      have e0 := HB.out w2 F2
      have HC : Hid _ := hq
      clear hq g2 g3 hrun0 F2 hb
      go_wp2_with fail
      refine post_void rfl rfl fun v => ?_
      exact ⟨v, q', rfl, HC.out⟩
end

end Go.Proofs.Ytjobdfkfongjaaa

