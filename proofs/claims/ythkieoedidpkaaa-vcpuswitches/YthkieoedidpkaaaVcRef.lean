/-
  The document's virtual processors told as what they hold ('IsD'); its New, At, Of over the translation. No statement is proved here.
-/
import Derived.Test.YthkieoedidpkaaaVcFl
import Derived.Test.YthkieoedidpkaaaVrRefK
namespace Go.Proofs.Ythkieoedidpkaaa
open Go.RowKit Go.Maps Go.WideMaps

def encO (y : Vc × Nat) : List Value := [.int .i64 y.1.id, .int .i64 y.1.th, .int .u32 (y.1.sy 0), .int .u32 (y.1.sy 1), .int .u32 (y.1.sy 2), .int .u32 (y.1.sy 3), .int .u32 (y.1.sy 4), .int .u32 (y.1.sy 5), .int .u32 (y.1.sy 6), .int .u32 (y.1.sy 7), pv y.2]
theorem encO_len (y : Vc × Nat) : (encO y).length = 11 := rfl
theorem encO_one (y : Vc × Nat) (u : Value) (h : u ∈ encO y) : u.oneCell' = true := by
  simp [encO] at h
  rcases h with rfl | rfl | rfl | rfl | rfl | rfl | rfl | rfl | rfl | rfl | rfl <;> rfl
structure Qd where
  b : Nat
  L : Value
  D : List (Vc × Nat)
def Qd.s (q : Qd) : Nat → Prop := fun k => k = q.b ∨ some k = q.L.ownBlock ∨ ∃ y ∈ q.D, k = y.2
structure IsD (w : World) (q : Qd) (S : Vp) : Prop where
  row : Row w q.b #[q.L, .int .i64 S.lrs, .int .i64 S.ld] 54
  fl : FL 62 11 encO 0 w q.L q.D
  eq : S.L = q.D.map (·.1)
  vs : ∀ y ∈ q.D, IsRv w y.2 y.1.vg
  ne : q.D.Pairwise (fun a b => a.2 ≠ b.2)
  good : GoodP S
structure ChD (w : World) (q : Qd) (w' : World) (q' : Qd) (S' : Vp) : Prop where
  is : IsD w' q' S'
  fr : Fr q.s w w'
  new : ∀ k, q'.s k → q.s k ∨ w.heap.size ≤ k
  eb : q'.b = q.b
section
variable {w w' w1 : World} {q q1 : Qd} {S S' : Vp}
theorem IsD.keep {T : Nat → Prop} (h : IsD w q S) (f : Fr T w w') (hs : ∀ k, q.s k → ¬ T k) : IsD w' q S :=
  ⟨h.row.keep f (hs _ (Or.inl rfl)), h.fl.at (fun k hk hl => f.block k hl (hs k (Or.inr (Or.inl hk)))), h.eq, fun y hy => (h.vs y hy).keep f (hs _ (Or.inr (Or.inr ⟨y, hy, rfl⟩))), h.ne, h.good⟩
theorem IsD.keep0 (h : IsD w q S) (f : Fr none' w w') : IsD w' q S := h.keep f (fun _ _ h => h)
theorem IsD.lt (h : IsD w q S) (k : Nat) (hk : q.s k) : k < w.heap.size := by
  rcases hk with rfl | hk | ⟨y, hy, rfl⟩
  · exact h.row.lt
  · exact (h.fl.blk hk).2.1
  · exact (h.vs y hy).lt _ rfl
theorem ChD.same (h : IsD w q S) (f : Fr none' w w') : ChD w q w' q S := ⟨h.keep0 f, f.mono (fun _ _ h => h.elim), fun _ h => Or.inl h, rfl⟩
theorem ChD.trans {q2 : Qd} {S1 : Vp} {w2 : World} (h : ChD w q w1 q1 S1) (k : ChD w1 q1 w2 q2 S') : ChD w q w2 q2 S' := by
  refine ⟨k.is, ⟨k.fr.os.trans h.fr.os, k.fr.tape.trans h.fr.tape, k.fr.output.trans h.fr.output, Nat.le_trans h.fr.size k.fr.size, fun i hi hn => ?_⟩, fun i hi => ?_, k.eb.trans h.eb⟩
  · refine (k.fr.block i (Nat.lt_of_lt_of_le hi h.fr.size) (fun e => ?_)).trans (h.fr.block i hi hn)
    rcases h.new i e with h1 | h1
    · exact hn h1
    · omega
  · rcases k.new i hi with h1 | h1
    · exact h.new i h1
    · have := h.fr.size
      exact Or.inr (by omega)
theorem ChD.after {w2 : World} (h : ChD w q w1 q1 S') (f : Fr none' w1 w2) : ChD w q w2 q1 S' := h.trans (ChD.same h.is f)
theorem ChD.before {w0 : World} (f : Fr none' w0 w) (h0 : IsD w0 q S) (h : ChD w q w' q1 S') : ChD w0 q w' q1 S' := (ChD.same h0 f).trans h
theorem IsD.dlen (h : IsD w q S) : q.D.length ≤ 1024 := by
  have := h.good.len
  rw [h.eq, List.length_map] at this
  exact this
theorem IsD.fnd (h : IsD w q S) {j : Nat} {y : Vc × Nat} (hj : q.D[j]? = some y) : fnd S.L y.1.id = some y.1 := by
  have hm : y.1 ∈ S.L := by
    rw [h.eq]
    exact List.mem_map_of_mem (List.mem_of_getElem? hj)
  exact fnd_of_mem h.good.one hm
theorem IsD.uniq (h : IsD w q S) {i j : Nat} {x y : Vc × Nat} (hi : q.D[i]? = some x) (hj : q.D[j]? = some y) (e : x.1.id = y.1.id) : i = j := by
  have ho := h.good.one
  rw [h.eq] at ho
  have ho' := List.pairwise_map.1 ho
  rw [List.pairwise_iff_getElem] at ho'
  have li : i < q.D.length := by
    rcases Nat.lt_or_ge i q.D.length with h' | h'
    · exact h'
    · rw [List.getElem?_eq_none h'] at hi; cases hi
  have lj : j < q.D.length := by
    rcases Nat.lt_or_ge j q.D.length with h' | h'
    · exact h'
    · rw [List.getElem?_eq_none h'] at hj; cases hj
  rw [List.getElem?_eq_getElem li] at hi
  rw [List.getElem?_eq_getElem lj] at hj
  rcases Nat.lt_trichotomy i j with h1 | h1 | h1
  · have := ho' i j li lj h1
    rw [Option.some.inj hi, Option.some.inj hj] at this
    exact absurd e this
  · exact h1
  · have := ho' j i lj li h1
    rw [Option.some.inj hi, Option.some.inj hj] at this
    exact absurd e.symm this
end
theorem isD_new (w : World) {n : Int} (hn : 1 ≤ n ∧ n ≤ 16) : IsD (w.alloc (.cells #[.slice none 0 0, .int .i64 n, .int .i64 (-1)] 54)) ⟨w.heap.size, .slice none 0 0, []⟩ ⟨[], -1, n⟩ :=
  ⟨row_alloc _ _ _, fl_nil _ _ _ _ _, rfl, fun _ h => (by cases h), List.Pairwise.nil, good_p0 hn⟩
/-- Where one is. -/
def Pl (q : Qd) (S : Vp) (id i : Int) : Prop := (fnd S.L id = none ∧ i = -1) ∨ ∃ (j : Nat) (y : Vc × Nat), q.D[j]? = some y ∧ y.1.id = id ∧ fnd S.L id = some y.1 ∧ i = (j : Int)

set_option maxRecDepth 100000 in
theorem dis_any (n : Int) (w : World) : Calls Try.prog 50 #[.int .i64 n] w fun e w' => e = .returned (.bool (rgB n 0 1023)) ∧ w' = w := by
  unfold rgB
  by_cases h1 : 0 ≤ n
  · have d1 : decide (0 ≤ n) = true := decide_eq_true h1
    by_cases h2 : n ≤ 1023
    · have d2 : decide (n ≤ 1023) = true := decide_eq_true h2
      rw [d1, d2]
      go_enter Try.func50, Try.ntmps50
      go_wp2_with fail
      go_ret
      exact ⟨rfl, rfl⟩
    · have d2 : decide (n ≤ 1023) = false := decide_eq_false h2
      rw [d1, d2]
      go_enter Try.func50, Try.ntmps50
      go_wp2_with fail
      go_ret
      exact ⟨rfl, rfl⟩
  · have d1 : decide (0 ≤ n) = false := decide_eq_false h1
    rw [d1]
    go_enter Try.func50, Try.ntmps50
    go_wp2_with fail
    go_ret
    exact ⟨rfl, rfl⟩
set_option maxRecDepth 100000 in
theorem dnew_bad (w : World) (n : Int) (hn : rgB n 1 16 = false) : Calls Try.prog 7 #[.int .i64 n] w fun e w' => e = .returned (.tuple #[.pointer none, .int .i64 1]) ∧ w' = w := by
  unfold rgB at hn
  by_cases h1 : n < 1
  · have d1 : decide (n < 1) = true := decide_eq_true h1
    go_enter Try.func7, Try.ntmps7
    go_wp2_with fail
    go_ret2
    exact ⟨rfl, rfl⟩
  · have d1 : decide (n < 1) = false := decide_eq_false h1
    have h2 : 16 < n := by
      have e1 : decide (1 ≤ n) = true := decide_eq_true (by omega)
      rw [e1] at hn
      have := of_decide_eq_false (by simpa using hn : decide (n ≤ 16) = false)
      omega
    have d2 : decide (16 < n) = true := decide_eq_true h2
    clear hn
    go_enter Try.func7, Try.ntmps7
    go_wp2_with fail
    go_ret2
    exact ⟨rfl, rfl⟩
set_option maxRecDepth 100000 in
theorem dnew_ok (w : World) (n : Int) (hn : rgB n 1 16 = true) : Calls Try.prog 7 #[.int .i64 n] w fun e w' => ∃ q : Qd, e = .returned (.tuple #[pv q.b, .int .i64 0]) ∧ Fr none' w w' ∧ IsD w' q ⟨[], -1, n⟩ ∧ ∀ k, q.s k → w.heap.size ≤ k := by
  have h := rg_iff.1 hn
  have H : Hid _ := isD_new w h
  have HF : Hid (Fr none' w (w.alloc (.cells #[.slice none 0 0, .int .i64 n, .int .i64 (-1)] 54))) := (Fr.refl none' w).alloc _
  have d1 : decide (n < 1) = false := decide_eq_false (by omega)
  have d2 : decide (16 < n) = false := decide_eq_false (by omega)
  clear hn h
  go_enter Try.func7, Try.ntmps7
  go_wp2_with fail
  go_ret2
  refine ⟨_, rfl, HF.out, H.out, fun k hk => ?_⟩
  rcases hk with rfl | hk | ⟨y, hy, _⟩
  · exact Nat.le_refl _
  · simp [Value.ownBlock] at hk
  · cases hy
set_option maxRecDepth 100000 in
set_option maxHeartbeats 2000000 in
theorem dat_any (w : World) (q : Qd) (S : Vp) (h : IsD w q S) (t : Int) :
    Calls Try.prog 35 #[pv q.b, .int .i64 t] w fun e w' => w' = w ∧ ∃ i, e = .returned (.int .i64 i) ∧ Pl q S t i := by
  have c0 : w.cell? ⟨q.b, 0, none⟩ = some q.L := h.row.cell 0
  have hlen := h.dlen
  obtain ⟨a, cap, hv, hn⟩ := h.fl.form encO_len
  rw [hv] at c0
  have HN : Hid (∀ i n, q.D[i]? = some n → ∃ g, a = some ⟨g, 0, none⟩ ∧ w.cell? ⟨g, i * 11, none⟩ = some (.int .i64 n.1.id)) := fun i n hi => by
    obtain ⟨g, e, c, _⟩ := hn i n hi
    exact ⟨g, e, c 0 _ rfl⟩
  have HD : Hid (IsD w q S) := h
  clear hn hv h
  obtain ⟨N, hNl⟩ : ∃ N, N = q.D.length := ⟨_, rfl⟩
  rw [← hNl] at c0 hlen
  have HL : Hid (N = q.D.length) := hNl
  clear hNl
  go_enter Try.func35, Try.ntmps35
  go_wp2_with fail
  go_loopw [5] (fun i wr => ∃ j : Nat, j ≤ N ∧ i = .int .i64 (j : Int) ∧ Hid (wr = w ∧ ∀ m n, m < j → q.D[m]? = some n → n.1.id ≠ t)) (fun i _ => N - (intOf i).toNat)
  case atStart => exact ⟨0, by omega, rfl, rfl, fun m n hm => by omega⟩
  case round =>
    obtain ⟨j, hj, rfl, hI⟩ := hrel
    obtain rfl : wr = w := hI.out.1
    by_cases hjN : j < N
    · have hjL : j < q.D.length := by rw [← HL.out]; exact hjN
      obtain ⟨g, rfl, d0⟩ := HN.out j q.D[j] (List.getElem?_eq_getElem hjL)
      have HX : Hid (q.D[j]? = some q.D[j]) := List.getElem?_eq_getElem hjL
      generalize q.D[j] = n at *
      by_cases e : n.1.id = t
      · have t1 : (n.1.id == t) = true := by simpa using e
        have HE : Hid (n.1.id = t) := e
        clear e
        go_wp2_with fail
        go_ret
        exact ⟨rfl, _, rfl, Or.inr ⟨j, n, HX.out, HE.out, by rw [← HE.out]; exact HD.out.fnd HX.out, rfl⟩⟩
      · have t1 : (n.1.id == t) = false := by simpa using e
        have HE : Hid (n.1.id ≠ t) := e
        clear e
        go_wp2_with fail
        go_roundw
        case rel =>
          refine ⟨j + 1, by omega, by go_num, trivial, fun m n' hm hn' => ?_⟩
          by_cases em : m = j
          · subst em
            rw [HX.out] at hn'
            cases hn'
            exact HE.out
          · exact hI.out.2 m n' (by omega) hn'
        case measure => simp [intOf]; omega
    · obtain rfl : j = N := by omega
      have HZ : Hid (fnd S.L t = none) := fnd_none_of fun x hx => by
        rw [HD.out.eq] at hx
        obtain ⟨y, hy, rfl⟩ := List.mem_map.1 hx
        obtain ⟨m, hm, e⟩ := List.mem_iff_getElem.1 hy
        exact hI.out.2 m y (by rw [HL.out]; exact hm) (by rw [List.getElem?_eq_getElem hm, e])
      go_wp2_with fail
      go_ret
      exact ⟨rfl, _, rfl, Or.inl ⟨HZ.out, rfl⟩⟩
set_option maxRecDepth 100000 in
set_option maxHeartbeats 2000000 in
theorem dofq_any (w : World) (q : Qd) (S : Vp) (h : IsD w q S) (t : Int) :
    Calls Try.prog 42 #[pv q.b, .int .i64 t] w fun e w' => e = .returned (.int .i64 (ofI S t)) ∧ w' = w := by
  have c0 : w.cell? ⟨q.b, 0, none⟩ = some q.L := h.row.cell 0
  have hlen := h.dlen
  obtain ⟨a, cap, hv, hn⟩ := h.fl.form encO_len
  rw [hv] at c0
  have HN : Hid (∀ i n, q.D[i]? = some n → ∃ g, a = some ⟨g, 0, none⟩ ∧ w.cell? ⟨g, i * 11, none⟩ = some (.int .i64 n.1.id) ∧ w.cell? ⟨g, i * 11 + 1, none⟩ = some (.int .i64 n.1.th)) := fun i n hi => by
    obtain ⟨g, e, c, _⟩ := hn i n hi
    exact ⟨g, e, c 0 _ rfl, c 1 _ rfl⟩
  have HD : Hid (IsD w q S) := h
  clear hn hv h
  obtain ⟨N, hNl⟩ : ∃ N, N = q.D.length := ⟨_, rfl⟩
  rw [← hNl] at c0 hlen
  have HL : Hid (N = q.D.length) := hNl
  clear hNl
  go_enter Try.func42, Try.ntmps42
  go_wp2_with fail
  go_loopw [5] (fun i wr => ∃ j : Nat, j ≤ N ∧ i = .int .i64 (j : Int) ∧ Hid (wr = w ∧ ∀ m n, m < j → q.D[m]? = some n → ¬ (0 ≤ t ∧ n.1.th = t))) (fun i _ => N - (intOf i).toNat)
  case atStart => exact ⟨0, by omega, rfl, rfl, fun m n hm => by omega⟩
  case round =>
    obtain ⟨j, hj, rfl, hI⟩ := hrel
    obtain rfl : wr = w := hI.out.1
    by_cases hjN : j < N
    · have hjL : j < q.D.length := by rw [← HL.out]; exact hjN
      obtain ⟨g, rfl, d0, d1⟩ := HN.out j q.D[j] (List.getElem?_eq_getElem hjL)
      have HX : Hid (q.D[j]? = some q.D[j]) := List.getElem?_eq_getElem hjL
      generalize q.D[j] = n at *
      by_cases e : 0 ≤ t ∧ n.1.th = t
      · have t0 : decide (0 ≤ t) = true := decide_eq_true e.1
        have t1 : (n.1.th == t) = true := by simpa using e.2
        have HE : Hid (ofI S t = n.1.id) := by
          have hm : n.1 ∈ S.L := by rw [HD.out.eq]; exact List.mem_map_of_mem (List.mem_of_getElem? HX.out)
          have := HD.out.good.th _ hm
          exact of_is HD.out.good (rg_iff.2 (by omega)) hm e.2
        clear e
        go_wp2_with fail
        go_ret
        rw [HE.out]
        exact ⟨rfl, rfl⟩
      · have HE : Hid (¬ (0 ≤ t ∧ n.1.th = t)) := e
        have t1 : (decide (0 ≤ t) && (n.1.th == t)) = false := by
          by_cases e0 : 0 ≤ t
          · have : ¬ n.1.th = t := fun h => e ⟨e0, h⟩
            simp [e0, this]
          · simp [e0]
        by_cases e0 : 0 ≤ t
        · have t0 : decide (0 ≤ t) = true := decide_eq_true e0
          have t2 : (n.1.th == t) = false := by rw [t0] at t1; simpa using t1
          clear e e0 t1
          go_wp2_with fail
          go_roundw
          case rel =>
            refine ⟨j + 1, by omega, by go_num, trivial, fun m n' hm hn' => ?_⟩
            by_cases em : m = j
            · subst em
              rw [HX.out] at hn'
              cases hn'
              exact HE.out
            · exact hI.out.2 m n' (by omega) hn'
          case measure => simp [intOf]; omega
        · have t0 : decide (0 ≤ t) = false := decide_eq_false e0
          clear e e0 t1
          go_wp2_with fail
          go_roundw
          case rel =>
            refine ⟨j + 1, by omega, by go_num, trivial, fun m n' hm hn' => ?_⟩
            by_cases em : m = j
            · subst em
              rw [HX.out] at hn'
              cases hn'
              exact HE.out
            · exact hI.out.2 m n' (by omega) hn'
          case measure => simp [intOf]; omega
    · obtain rfl : j = N := by omega
      have HZ : Hid (ofI S t = -1) := by
        by_cases e0 : 0 ≤ t
        · exact of_no fun x hx ex => by
            rw [HD.out.eq] at hx
            obtain ⟨y, hy, rfl⟩ := List.mem_map.1 hx
            obtain ⟨m, hm, e⟩ := List.mem_iff_getElem.1 hy
            exact hI.out.2 m y (by rw [HL.out]; exact hm) (by rw [List.getElem?_eq_getElem hm, e]) ⟨e0, ex⟩
        · show ofI S t = -1
          unfold ofI
          rw [if_neg (fun h => e0 (rg_iff.1 h).1)]
      go_wp2_with fail
      go_ret
      rw [HZ.out]
      exact ⟨rfl, rfl⟩

end Go.Proofs.Ythkieoedidpkaaa
