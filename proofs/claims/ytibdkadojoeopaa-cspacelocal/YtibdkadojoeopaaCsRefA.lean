/-
  The contract of the document's AddNode over the translation. No statement is proved here.
-/
import Derived.Test.YtibdkadojoeopaaCsRefP
namespace Go.Proofs.Ytibdkadojoeopaa
open Go.RowKit Go.Maps Go.WideMaps

theorem ins_app_gt {n : Nd} {A B : List Nd} (h : ∃ a ∈ A, n.id < a.id) : ins n (A ++ B) = ins n A ++ B := by
  induction A with
  | nil => obtain ⟨a, ha, _⟩ := h; cases ha
  | cons x A ih =>
    rw [List.cons_append, ins, ins]
    split
    · rfl
    · rw [ih (by
        obtain ⟨a, ha, hl⟩ := h
        rcases List.mem_cons.mp ha with rfl | ha
        · contradiction
        · exact ⟨a, ha, hl⟩)]
      rfl
theorem ins_app_le {n : Nd} {A B : List Nd} (h : ∀ a ∈ A, ¬ n.id < a.id) : ins n (A ++ B) = A ++ ins n B := by
  induction A with
  | nil => rfl
  | cons x A ih =>
    rw [List.cons_append, ins, if_neg (h x List.mem_cons_self), ih (fun a ha => h a (List.mem_cons_of_mem _ ha))]
    rfl
theorem ins_one_gt {n b : Nd} (h : n.id < b.id) : ins n [b] = [n, b] := by unfold ins; rw [if_pos h]
theorem ins_nil (n : Nd) : ins n [] = [n] := rfl

theorem info_node : (Try.prog.info? 73).map (fun i => (i.zero, i.size, i.bytes)) = some (some (.agg #[.int .i64 0, .int .i64 0, .slice none 0 0]), 3, 40) := by kernel_rfl

/-- A block of slots is no row of nodes. -/
theorem sl_not_own {w : World} {g n : Nat} {sl : Nat → K} (h : SlB w g n sl) {B m k : Nat} {v : Value} {xs : List Value} (o : w.ownsRow B 73 k v m xs) : some g ≠ v.ownBlock := by
  intro e
  obtain ⟨cs, hr, _⟩ := h
  obtain ⟨_, o | ⟨g', cap, cur, hv, _, hg, _⟩⟩ := o
  · rw [o.1] at e; simp [Value.ownBlock] at e
  · rw [hv] at e
    obtain rfl : g = g' := by simpa [Value.ownBlock] using e
    have h1 : w.heap[g]? = _ := hr
    rw [hg] at h1
    simp at h1

/-- A struct of a space is no row of nodes. -/
theorem sp_not_own {w : World} {g : Nat} {cs : Array Value} (hr : Row w g cs 29) {B m k : Nat} {v : Value} {xs : List Value} (o : w.ownsRow B 73 k v m xs) : some g ≠ v.ownBlock := by
  intro e
  obtain ⟨_, o | ⟨g', cap, cur, hv, _, hg, _⟩⟩ := o
  · rw [o.1] at e; simp [Value.ownBlock] at e
  · rw [hv] at e
    obtain rfl : g = g' := by simpa [Value.ownBlock] using e
    have h1 : w.heap[g]? = _ := hr
    rw [hg] at h1
    simp at h1

/-- Where building the new row stands. -/
structure AddI (w wr : World) (q : Qb) (L : List Nd) (v : Value) (C : Nat → Nat) (A : List Nd) : Prop where
  own : OwnK 73 3 wr w.heap.size v A.length (flatN C A)
  is : IsQ wr q L
  fr : Fr none' w wr

theorem AddI.keep0 {w wr w' : World} {q : Qb} {L A : List Nd} {v : Value} {C : Nat → Nat} (h : AddI w wr q L v C A) (f : Fr none' wr w') : AddI w w' q L v C A := ⟨h.own.keep0 f, h.is.keep0 f, h.fr.trans f⟩

theorem AddI.more {w wr : World} {q : Qb} {L A : List Nd} {v : Value} {C : Nat → Nat} (h : AddI w wr q L v C A) (hB : ∀ k, q.s L k → k < w.heap.size) (hn : A.length ≤ 2000) (x : Nd) (g N : Nat) (hN : N = 2 ^ x.rx) (r : Row wr g #[.int .i64 (x.id : Int), .int .i64 (x.rx : Int), .slice (some ⟨C x.id, 0, none⟩) N N] 73) :
    ∃ v' w', (Builtin.append_ #[27, 27] 27 #[v, .slice (some ⟨g, 0, none⟩) 1 1]).run Try.prog wr = .ok v' w' ∧ AddI w w' q L v' C (A ++ [x]) ∧ Fr (fun k => some k = v.ownBlock) wr w' := by
  subst hN
  obtain ⟨v', w', h1, f, o⟩ := append_k (T := 27) Try.underlying27 info_node rfl (by omega) (by omega) wr w.heap.size ⟨g, 0, none⟩ v A.length (flatN C A) (ndV x (C x.id)) h.fr.size h.own (by omega) rfl (fun j u hu => by
    rw [add_lit', Nat.zero_add, r.cell]
    match j, hu with
    | 0, hu => simpa [ndV] using hu
    | 1, hu => simpa [ndV] using hu
    | 2, hu => simpa [ndV] using hu
    | j + 3, hu => simp [ndV] at hu) (fun u hu => by simp [ndV] at hu; rcases hu with rfl | rfl | rfl <;> rfl)
  have hi : ∀ k, some k = v.ownBlock → w.heap.size ≤ k := fun k hk => h.own.high k hk
  refine ⟨v', w', h1, ⟨?_, h.is.keep f (fun k hk e => by have := hi k e; have := hB k hk; omega), Fr.ownK h.fr f h.own⟩, f⟩
  rw [List.length_append, flatN_append, flatN_one]
  exact o

/-- One node more: the row stored. -/
theorem IsQ.add {w wr : World} {q : Qb} {L : List Nd} (h : IsQ w q L) {n : Nd} (hn : GoodN n) (hf : fnd L n.id = none) {v : Value} {G : Nat} (hI : AddI w wr q L v (updB q.C n.id G) (ins n L)) (hG : w.heap.size ≤ G) (hs : SlB wr G (2 ^ n.rx) n.sl) : ChgQ w q L (wr.setCell ⟨q.b, 0, none⟩ v) (ins n L) := by
  have nm : ∀ m ∈ L, m.id ≠ n.id := fun m hm e => fnd_none hf m hm (by rw [e])
  have hC : ∀ m ∈ L, updB q.C n.id G m.id = q.C m.id := fun m hm => by unfold updB; rw [if_neg (nm m hm)]
  have hN : updB q.C n.id G n.id = G := by unfold updB; rw [if_pos rfl]
  have hlt := fun k hk => h.lt k hk
  have hb := hlt q.b (Or.inl rfl)
  have f : Fr (at' q.b) wr (wr.setCell ⟨q.b, 0, none⟩ v) := fr_set wr q.b 0 v (Fr.refl _ _)
  have ho := ownsRow_zero hI.own.1
  have hnb : some q.b ≠ v.ownBlock := fun e => by have := hI.own.high q.b e; omega
  have r' : Row (wr.setCell ⟨q.b, 0, none⟩ v) q.b #[v] 29 := by simpa using hI.is.row.setCell 0 v
  have sl' : ∀ m, m ∈ ins n L → SlB (wr.setCell ⟨q.b, 0, none⟩ v) (updB q.C n.id G m.id) (2 ^ m.rx) m.sl := fun m hm => by
    rcases mem_ins.mp hm with rfl | hm
    · rw [hN]; exact hs.keep f (fun e => by have e' : G = q.b := e; omega)
    · rw [hC m hm]; exact (hI.is.sl m hm).keep f (fun e => (h.ns m hm).1 e)
  have o' : (wr.setCell ⟨q.b, 0, none⟩ v).ownsRow 0 73 3 v (ins n L).length (flatN (updB q.C n.id G) (ins n L)) := ownsRow_at ho (fun k hk hl => f.block k hl (fun e => hnb (by rw [← (show k = q.b from e)]; exact hk)))
  refine ⟨⟨q.b, v, updB q.C n.id G⟩, rfl, ⟨r', o', sl', fun m hm m' hm' e => ?_, hnb, fun m hm => ⟨?_, sl_not_own (sl' m hm) o'⟩, good_ins h.good hn hf⟩, ?_, fun k hk => ?_⟩
  · have e' : updB q.C n.id G m.id = updB q.C n.id G m'.id := e
    rcases mem_ins.mp hm with q1 | q1
    · rcases mem_ins.mp hm' with q2 | q2
      · rw [q1, q2]
      · rw [q1, hN, hC m' q2] at e'
        have := hlt _ (Or.inr (Or.inr ⟨m', q2, rfl⟩))
        omega
    · rcases mem_ins.mp hm' with q2 | q2
      · rw [q2, hN, hC m q1] at e'
        have := hlt _ (Or.inr (Or.inr ⟨m, q1, rfl⟩))
        omega
      · rw [hC m q1, hC m' q2] at e'
        exact h.inj m q1 m' q2 e'
  · show updB q.C n.id G m.id ≠ q.b
    rcases mem_ins.mp hm with rfl | hm
    · rw [hN]; omega
    · rw [hC m hm]; exact (h.ns m hm).1
  · exact (hI.fr.mono (fun _ _ h => h.elim)).setCell (p := ⟨q.b, 0, none⟩) (Or.inr (Or.inl rfl)) v
  · rcases hk with rfl | hk | ⟨m, hm, rfl⟩
    · exact Or.inl (Or.inl rfl)
    · exact Or.inr (hI.own.high k hk)
    · rcases mem_ins.mp hm with rfl | hm
      · right
        show w.heap.size ≤ updB q.C m.id G m.id
        rw [hN]; exact hG
      · left
        exact Or.inr (Or.inr ⟨m, hm, hC m hm⟩)

set_option maxRecDepth 100000 in
set_option maxHeartbeats 1000000 in
theorem radd_arg (w : World) (P : Value) (id rx : Int) (h : okA id rx = false) : Calls Try.prog 27 #[P, .int .i64 id, .int .i64 rx] w fun e w' => e = .returned (.int .i64 1) ∧ w' = w := by
  have hh : id < 0 ∨ (¬ id < 0 ∧ 1023 < id) ∨ (¬ id < 0 ∧ ¬ 1023 < id ∧ rx < 1) ∨ (¬ id < 0 ∧ ¬ 1023 < id ∧ ¬ rx < 1 ∧ 4 < rx) := by
    have : ¬ ((0 ≤ id ∧ id ≤ 1023) ∧ 1 ≤ rx ∧ rx ≤ 4) := fun hh => by rw [okA_iff.mpr hh] at h; cases h
    omega
  clear h
  rcases hh with h1 | ⟨h1, h2⟩ | ⟨h1, h2, h3⟩ | ⟨h1, h2, h3, h4⟩
  · have t1 : decide (id < 0) = true := decide_eq_true h1
    clear h1
    go_enter Try.func27, Try.ntmps27
    go_wp2_with fail
    go_ret
    exact ⟨rfl, rfl⟩
  · have t1 : decide (id < 0) = false := decide_eq_false h1
    have t2 : decide (1023 < id) = true := decide_eq_true h2
    clear h1 h2
    go_enter Try.func27, Try.ntmps27
    go_wp2_with fail
    go_ret
    exact ⟨rfl, rfl⟩
  · have t1 : decide (id < 0) = false := decide_eq_false h1
    have t2 : decide (1023 < id) = false := decide_eq_false h2
    have t3 : decide (rx < 1) = true := decide_eq_true h3
    clear h1 h2 h3
    go_enter Try.func27, Try.ntmps27
    go_wp2_with fail
    go_ret
    exact ⟨rfl, rfl⟩
  · have t1 : decide (id < 0) = false := decide_eq_false h1
    have t2 : decide (1023 < id) = false := decide_eq_false h2
    have t3 : decide (rx < 1) = false := decide_eq_false h3
    have t4 : decide (4 < rx) = true := decide_eq_true h4
    clear h1 h2 h3 h4
    go_enter Try.func27, Try.ntmps27
    go_wp2_with fail
    go_ret
    exact ⟨rfl, rfl⟩

set_option maxRecDepth 100000 in
set_option maxHeartbeats 1000000 in
theorem radd_full (w : World) (q : Qb) (L : List Nd) (h : IsQ w q L) (id rx : Int) (ho : okA id rx = true) (y : Nd) (hf : fnd L id = some y) : Calls Try.prog 27 #[.pointer (some ⟨q.b, 0, none⟩), .int .i64 id, .int .i64 rx] w fun e w' => e = .returned (.int .i64 130) ∧ w' = w := by
  obtain ⟨⟨h1, h2⟩, h3, h4⟩ := okA_iff.mp ho
  have t1 : decide (id < 0) = false := decide_eq_false (by omega)
  have t2 : decide (1023 < id) = false := decide_eq_false (by omega)
  have t3 : decide (rx < 1) = false := decide_eq_false (by omega)
  have t4 : decide (4 < rx) = false := decide_eq_false (by omega)
  have hA := rat_any w q L h id
  clear h1 h2 h3 h4 ho h
  go_enter Try.func27, Try.ntmps27
  go_wp2_with fail
  refine hA.mono ?_
  rintro e w1 ⟨rfl, ⟨hf', rfl⟩ | ⟨i, n, hf', hi, rfl⟩⟩
  · rw [hf] at hf'; cases hf'
  · clear hA hf hf' hi
    go_wp2_with fail
    go_ret
    exact ⟨rfl, rfl⟩

end Go.Proofs.Ytibdkadojoeopaa
