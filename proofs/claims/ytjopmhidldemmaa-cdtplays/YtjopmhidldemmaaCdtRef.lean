/-
  The document's forest (a struct, a row of names with parents and children, a row of roots) told as what it holds ('IsR'); its find. No statement is proved here.
-/
import Derived.Test.YtjopmhidldemmaaCdtOwn
namespace Go.Proofs.Ytjopmhidldemmaa
open Go.RowKit Go.Maps Go.WideMaps

/-- A name, its parent's place, its children's, whether it is gone. -/
structure On where
  a : Rf
  up : Int
  ks : List Nat
  go : Bool

def fdR (a : Rf) : List On → Option Nat
  | [] => none
  | o :: L => if o.go = false ∧ o.a = a then some 0 else (fdR a L).map (· + 1)
def fdI (a : Rf) (L : List On) : Int := match fdR a L with
  | some k => (k : Int)
  | none => -1

def onV (o : On) (v : Value) : List Value := [.int .i64 o.a.n, .int .i64 o.a.i, .int .i64 o.up, v, .bool o.go]
def flatO (K : Nat → Value) : Nat → List On → List Value
  | _, [] => []
  | i, o :: L => onV o (K i) ++ flatO K (i + 1) L
theorem flatO_append (K : Nat → Value) : ∀ (i : Nat) (L M : List On), flatO K i (L ++ M) = flatO K i L ++ flatO K (i + L.length) M
  | i, [], M => by simp [flatO]
  | i, o :: L, M => by
    rw [List.cons_append, flatO, flatO_append K (i + 1) L M, flatO, List.append_assoc, List.length_cons, show i + 1 + L.length = i + (L.length + 1) by omega]
theorem flatO_len (K : Nat → Value) : ∀ (i : Nat) (L : List On), (flatO K i L).length = L.length * 5
  | _, [] => rfl
  | i, o :: L => by
    rw [flatO, List.length_append, flatO_len K (i + 1) L]
    simp [onV]
    omega
theorem flatO_at (K : Nat → Value) : ∀ (i : Nat) (L : List On) (j : Nat) (o : On), L[j]? = some o → ∀ r, r < 5 → (flatO K i L)[j * 5 + r]? = (onV o (K (i + j)))[r]?
  | i, y :: L, 0, o, h, r, hr => by
    simp at h
    subst h
    rw [flatO, Nat.zero_mul, Nat.zero_add, List.getElem?_append_left (by simp [onV]; omega)]
    rfl
  | i, y :: L, j + 1, o, h, r, hr => by
    have e : (onV y (K i)).length = 5 := rfl
    rw [flatO, List.getElem?_append_right (by omega), e, show (j + 1) * 5 + r - 5 = j * 5 + r by omega, flatO_at K (i + 1) L j o (by simpa using h) r hr, show i + 1 + j = i + (j + 1) by omega]
  | _, [], j, o, h, _, _ => by simp at h
theorem flatO_congr {K K' : Nat → Value} : ∀ {i : Nat} {L : List On}, (∀ j, i ≤ j → j < i + L.length → K j = K' j) → flatO K i L = flatO K' i L
  | _, [], _ => rfl
  | i, o :: L, h => by
    rw [flatO, flatO, h i (by omega) (by simp), flatO_congr (fun j h1 h2 => h j (by omega) (by simp; omega))]

/-- A row of numbers of the document's. -/
def Ks (w : World) (B : Nat) (v : Value) (l : List Nat) : Prop := OwnK 3 1 w B v l.length (l.map fun (n : Nat) => Value.int .i64 (n : Int))
theorem ks_nil (w : World) (B : Nat) : Ks w B (.slice none 0 0) [] := ownk_nil 3 1 w B
theorem OwnK.blk {e : TypeId} {k : Nat} {w : World} {B : Nat} {v : Value} {n : Nat} {L : List Value} (h : OwnK e k w B v n L) (q : Nat) (hq : some q = v.ownBlock) : q < w.heap.size := by
  by_cases hn : n = 0
  · rw [h.2 hn] at hq; simp [Value.ownBlock] at hq
  · obtain ⟨g, cap, cur, hv, _, hr, _⟩ := h.row hn
    rw [hv] at hq
    simp [Value.ownBlock] at hq
    subst hq
    exact hr.lt
theorem Ks.cells {w : World} {B : Nat} {v : Value} {l : List Nat} (h : Ks w B v l) : ∃ a cap, v = .slice a l.length cap ∧ ∀ (i n : Nat), l[i]? = some n → ∃ g, a = some ⟨g, 0, none⟩ ∧ w.cell? ⟨g, i, none⟩ = some (.int .i64 (n : Int)) := by
  by_cases hn : l.length = 0
  · have := h.2 hn
    refine ⟨none, 0, by rw [this, hn], fun i n hi => ?_⟩
    rw [List.eq_nil_of_length_eq_zero hn] at hi
    simp at hi
  · obtain ⟨g, cap, cur, hv, _, hr, _, _, _, hx⟩ := h.row hn
    refine ⟨_, cap, hv, fun i n hi => ⟨g, rfl, ?_⟩⟩
    rw [hr.cell]
    exact hx i _ (by rw [List.getElem?_map, hi]; rfl)

/-- Its rows' values. -/
structure Qr where
  v : Value
  K : Nat → Value
  u : Value
def Qr.s (q : Qr) (r : Nat) (n : Nat) : Nat → Prop := fun k => k = r ∨ some k = q.v.ownBlock ∨ some k = q.u.ownBlock ∨ ∃ i, i < n ∧ some k = (q.K i).ownBlock

structure IsR (w : World) (B r : Nat) (q : Qr) (L : List On) (ro : List Nat) : Prop where
  row : Row w r #[q.v, q.u] 30
  own : OwnK 64 5 w B q.v L.length (flatO q.K 0 L)
  rts : Ks w B q.u ro
  kd : ∀ i o, L[i]? = some o → Ks w B (q.K i) o.ks
  hi : B ≤ r
  sm : L.length ≤ 1000

theorem own_ne {e : TypeId} {k : Nat} {w : World} {B : Nat} {v : Value} {n : Nat} {L : List Value} (h : OwnK e k w B v n L) {c : Nat} {cs : Array Value} {t : TypeId} (r : Row w c cs t) (ht : t ≠ e) : some c ≠ v.ownBlock := by
  intro hq
  by_cases hn : n = 0
  · rw [h.2 hn] at hq; simp [Value.ownBlock] at hq
  · obtain ⟨g, cap, cur, hv, _, hr, _⟩ := h.row hn
    rw [hv] at hq
    simp [Value.ownBlock] at hq
    subst hq
    have h1 : w.heap[c]? = some (.cells cur e (0, 0)) := hr
    rw [show w.heap[c]? = _ from r] at h1
    cases h1
    exact ht rfl
theorem own_own {e e' : TypeId} {k k' : Nat} {w : World} {B B' : Nat} {v v' : Value} {n n' : Nat} {L L' : List Value} (h : OwnK e k w B v n L) (h' : OwnK e' k' w B' v' n' L') (ht : e' ≠ e) : ∀ c, some c = v'.ownBlock → some c ≠ v.ownBlock := by
  intro c hc
  by_cases hn : n' = 0
  · rw [h'.2 hn] at hc; simp [Value.ownBlock] at hc
  · obtain ⟨g, cap, cur, hv, _, hr, _⟩ := h'.row hn
    rw [hv] at hc
    simp [Value.ownBlock] at hc
    subst hc
    exact own_ne h hr ht

section
variable {w : World} {B r : Nat} {q : Qr} {L : List On} {ro : List Nat}
theorem IsR.keep {S : Nat → Prop} {w' : World} (h : IsR w B r q L ro) (f : Fr S w w') (hs : ∀ k, q.s r L.length k → ¬ S k) : IsR w' B r q L ro :=
  ⟨h.row.keep f (hs _ (Or.inl rfl)), h.own.at (fun k hk hl => f.block k hl (hs k (Or.inr (Or.inl hk)))), h.rts.at (fun k hk hl => f.block k hl (hs k (Or.inr (Or.inr (Or.inl hk))))), fun i o hi => (h.kd i o hi).at (fun k hk hl => f.block k hl (hs k (Or.inr (Or.inr (Or.inr ⟨i, (List.getElem?_eq_some_iff.1 hi).1, hk⟩))))), h.hi, h.sm⟩
theorem IsR.keep0 {w' : World} (h : IsR w B r q L ro) (f : Fr none' w w') : IsR w' B r q L ro := h.keep f (fun _ _ h => h)
theorem IsR.lt (h : IsR w B r q L ro) (k : Nat) (hk : q.s r L.length k) : k < w.heap.size := by
  rcases hk with rfl | hk | hk | ⟨i, hi, hk⟩
  · exact h.row.lt
  · exact h.own.blk k hk
  · exact h.rts.blk k hk
  · exact (h.kd i _ (List.getElem?_eq_getElem hi)).blk k hk
theorem IsR.nb (h : IsR w B r q L ro) : some r ≠ q.v.ownBlock := own_ne h.own h.row (by decide)
theorem IsR.nu (h : IsR w B r q L ro) : some r ≠ q.u.ownBlock ∧ ∀ k, some k = q.u.ownBlock → some k ≠ q.v.ownBlock := ⟨own_ne h.rts h.row (by decide), own_own h.own h.rts (by decide)⟩
theorem IsR.nk (h : IsR w B r q L ro) (i : Nat) (hi : i < L.length) : some r ≠ (q.K i).ownBlock ∧ ∀ k, some k = (q.K i).ownBlock → some k ≠ q.v.ownBlock :=
  ⟨own_ne (h.kd i _ (List.getElem?_eq_getElem hi)) h.row (by decide), own_own h.own (h.kd i _ (List.getElem?_eq_getElem hi)) (by decide)⟩
theorem IsR.high (h : IsR w B r q L ro) (k : Nat) (hk : q.s r L.length k) : B ≤ k := by
  rcases hk with rfl | hk | hk | ⟨i, hi, hk⟩
  · exact h.hi
  · exact h.own.high k hk
  · exact h.rts.high k hk
  · exact (h.kd i _ (List.getElem?_eq_getElem hi)).high k hk
theorem IsR.c0 (h : IsR w B r q L ro) : w.cell? ⟨r, 0, none⟩ = some q.v := h.row.cell 0
theorem IsR.c1 (h : IsR w B r q L ro) : w.cell? ⟨r, 1, none⟩ = some q.u := h.row.cell 1

/-- The row's cells. -/
theorem IsR.form (h : IsR w B r q L ro) : ∃ (a : Option Addr) (cap : Nat), q.v = .slice a L.length cap ∧ ∀ i o, L[i]? = some o → ∃ g, a = some ⟨g, 0, none⟩ ∧ w.cell? ⟨g, i * 5, none⟩ = some (.int .i64 o.a.n) ∧ w.cell? ⟨g, i * 5 + 1, none⟩ = some (.int .i64 o.a.i) ∧ w.cell? ⟨g, i * 5 + 2, none⟩ = some (.int .i64 o.up) ∧ w.cell? ⟨g, i * 5 + 3, none⟩ = some (q.K i) ∧ w.cell? ⟨g, i * 5 + 4, none⟩ = some (.bool o.go) := by
  by_cases hn : L.length = 0
  · have := h.own.2 hn
    refine ⟨none, 0, by rw [this, hn], fun i o hi => ?_⟩
    rw [List.eq_nil_of_length_eq_zero hn] at hi
    simp at hi
  · obtain ⟨g, cap, cur, hv, _, hr, _, _, _, hx⟩ := h.own.row hn
    refine ⟨_, cap, hv, fun i o hi => ⟨g, rfl, ?_⟩⟩
    have key : ∀ c x, c < 5 → (onV o (q.K i))[c]? = some x → w.cell? ⟨g, i * 5 + c, none⟩ = some x := fun c x hc hx' => by
      rw [hr.cell]
      exact hx _ x (by rw [flatO_at q.K 0 L i o hi c hc, Nat.zero_add]; exact hx')
    exact ⟨key 0 _ (by omega) rfl, key 1 _ (by omega) rfl, key 2 _ (by omega) rfl, key 3 _ (by omega) rfl, key 4 _ (by omega) rfl⟩

/-- A block of the document's kinds. -/
def RefB (B : Nat) (w : World) (k : Nat) : Prop := B ≤ k ∧ ∃ cs t, Row w k cs t ∧ (t = 30 ∨ t = 64 ∨ t = 3)
theorem own_refB {e : TypeId} {k : Nat} {v : Value} {n : Nat} {M : List Value} (h : OwnK e k w B v n M) (he : e = 64 ∨ e = 3) (x : Nat) (hx : some x = v.ownBlock) : RefB B w x := by
  by_cases hn : n = 0
  · rw [h.2 hn] at hx; simp [Value.ownBlock] at hx
  · obtain ⟨g, cap, cur, hv, hb, hr, _⟩ := h.row hn
    rw [hv] at hx
    simp [Value.ownBlock] at hx
    subst hx
    exact ⟨hb, _, _, hr, Or.inr he⟩
theorem IsR.kinds (h : IsR w B r q L ro) (k : Nat) (hk : q.s r L.length k) : RefB B w k := by
  rcases hk with rfl | hk | hk | ⟨i, hi, hk⟩
  · exact ⟨h.hi, _, _, h.row, Or.inl rfl⟩
  · exact own_refB h.own (Or.inl rfl) k hk
  · exact own_refB h.rts (Or.inr rfl) k hk
  · exact own_refB (h.kd i _ (List.getElem?_eq_getElem hi)) (Or.inr rfl) k hk
theorem refB_trans {w1 w2 : World} (f : Fr (RefB B w) w w1) (g : Fr (RefB B w1) w1 w2) : Fr (RefB B w) w w2 :=
  ⟨g.os.trans f.os, g.tape.trans f.tape, g.output.trans f.output, Nat.le_trans f.size g.size, fun i hi hn => (g.block i (Nat.lt_of_lt_of_le hi f.size) (fun ⟨hb, cs, t, hr, ht⟩ => hn ⟨hb, cs, t, (f.block i hi hn).symm.trans hr, ht⟩)).trans (f.block i hi hn)⟩
theorem refB_none {w1 : World} (f : Fr none' w w1) : Fr (RefB B w) w w1 := f.mono (fun _ _ h => h.elim)

/-- What a call leaves. -/
def ChgR (w : World) (B r : Nat) (w' : World) (L' : List On) (ro' : List Nat) : Prop := ∃ q', IsR w' B r q' L' ro' ∧ Fr (RefB B w) w w'
theorem ChgR.same {w' : World} (h : IsR w B r q L ro) (f : Fr none' w w') : ChgR w B r w' L ro := ⟨q, h.keep0 f, refB_none f⟩
theorem ChgR.of {w' : World} {q' : Qr} {L' : List On} {ro' : List Nat} (h : IsR w B r q L ro) (h' : IsR w' B r q' L' ro') (f : Fr (q.s r L.length) w w') : ChgR w B r w' L' ro' := ⟨q', h', f.mono (fun k _ hk => h.kinds k hk)⟩
end

theorem fdR_some {a : Rf} : ∀ {L : List On} {k : Nat}, fdR a L = some k → ∃ o, L[k]? = some o ∧ o.go = false ∧ o.a = a ∧ ∀ j o', j < k → L[j]? = some o' → ¬ (o'.go = false ∧ o'.a = a)
  | [], k, h => by cases h
  | o :: L, k, h => by
    unfold fdR at h
    split at h
    · rename_i hh
      cases h
      exact ⟨o, rfl, hh.1, hh.2, fun j o' hj => by omega⟩
    · rename_i hh
      cases hf : fdR a L with
      | none => rw [hf] at h; cases h
      | some k' =>
        rw [hf] at h
        cases h
        obtain ⟨o2, h1, h2, h3, h4⟩ := fdR_some hf
        refine ⟨o2, by simpa using h1, h2, h3, fun j o' hj ho' => ?_⟩
        cases j with
        | zero => simp at ho'; subst ho'; exact hh
        | succ i => exact h4 i o' (by have : i + 1 < k' + 1 := hj; omega) (by simpa using ho')
theorem fdR_at {a : Rf} : ∀ {L : List On} {k : Nat} {o : On}, L[k]? = some o → o.go = false → o.a = a → (∀ j o', j < k → L[j]? = some o' → ¬ (o'.go = false ∧ o'.a = a)) → fdR a L = some k
  | [], k, o, h, _, _, _ => by simp at h
  | x :: L, 0, o, h, h1, h2, _ => by
    simp at h
    subst h
    simp [fdR, h1, h2]
  | x :: L, k + 1, o, h, h1, h2, h3 => by
    have hx := h3 0 x (by omega) rfl
    unfold fdR
    rw [if_neg hx, fdR_at (k := k) (by simpa using h) h1 h2 (fun j o' hj ho' => h3 (j + 1) o' (by omega) (by simpa using ho'))]
    rfl
theorem fdR_none {a : Rf} : ∀ {L : List On}, (∀ (j : Nat) (o' : On), L[j]? = some o' → ¬ (o'.go = false ∧ o'.a = a)) → fdR a L = none
  | [], _ => rfl
  | x :: L, h => by
    unfold fdR
    rw [if_neg (h 0 x rfl), fdR_none (fun j o' ho' => h (j + 1) o' (by simpa using ho'))]
    rfl

set_option maxRecDepth 100000 in
set_option maxHeartbeats 1000000 in
theorem find_any (w : World) (B r : Nat) (q : Qr) (L : List On) (ro : List Nat) (h : IsR w B r q L ro) (a : Rf) :
    Calls Try.prog 37 #[pv r, rfV a] w fun e w' => e = .returned (.int .i64 (fdI a L)) ∧ Fr none' w w' := by
  have f1 := (Fr.refl none' w).alloc (.cells #[.int .i64 a.n, .int .i64 a.i] 33)
  have ra := row_alloc w #[.int .i64 a.n, .int .i64 a.i] 33
  have h1 := h.keep0 f1
  have c0 := h1.c0
  obtain ⟨ad0, cap, hv, hn⟩ := h1.form
  rw [hv] at c0
  have a0 := ra.cell 0
  have a1 := ra.cell 1
  have HN : Hid _ := ⟨hn⟩
  have hlen := h.sm
  clear hn hv h h1 ra
  obtain ⟨N, hNl⟩ : ∃ N, N = L.length := ⟨_, rfl⟩
  rw [← hNl] at c0 hlen
  have HL : Hid (N = L.length) := ⟨hNl⟩
  clear hNl
  have HR : Hid (∀ x : Int, x = fdI a L → Ending.returned (.int .i64 x) = .returned (.int .i64 (fdI a L))) := ⟨fun x e => by rw [e]⟩
  generalize hRR : Ending.returned (.int .i64 (fdI a L)) = RR at HR ⊢
  clear hRR
  go_enter Try.func37, Try.ntmps37
  generalize hW : w.alloc (.cells #[.int .i64 a.n, .int .i64 a.i] 33) = W at *
  go_wp2_with fail
  go_loopw [5] (fun i wr => ∃ j m : Nat, j ≤ N ∧ i = .int .i64 (j : Int) ∧ wr = W.drewN m ∧ Hid (∀ k o, k < j → L[k]? = some o → ¬ (o.go = false ∧ o.a = a))) (fun i _ => N - (intOf i).toNat)
  case atStart => exact ⟨0, 0, by omega, rfl, by first | rfl | exact hW, ⟨fun m n hm => by omega⟩⟩
  case round =>
    obtain ⟨j, m, hj, rfl, rfl, hI⟩ := hrel
    by_cases hjN : j < N
    · have hjL : j < L.length := by rw [← HL.out]; exact hjN
      obtain ⟨g, rfl, d0, d1, _, _, d4⟩ := HN.out j L[j] (List.getElem?_eq_getElem hjL)
      have HX : Hid (L[j]? = some L[j]) := ⟨List.getElem?_eq_getElem hjL⟩
      generalize L[j] = o at *
      have i1 : 0 ≤ (j : Int) ∧ (j : Int) < (N : Int) := by omega
      have uk : decide ((j : Int) < (N : Int)) = true := decide_eq_true (by omega)
      clear hjL
      cases hgo : o.go with
      | true =>
        rw [hgo] at d4
        go_wp2_with fail
        go_quiet (fail)
        go_wp2_with fail
        go_roundw
        case rel => exact ⟨j + 1, _, by omega, by go_num, rfl, ⟨fun k o' hk ho' => by
          rcases Nat.lt_or_ge k j with h | h
          · exact hI.out k o' h ho'
          · obtain rfl : k = j := by omega
            rw [HX.out] at ho'
            cases ho'
            rw [hgo]
            simp⟩⟩
        case measure => simp [intOf]; omega
      | false =>
        rw [hgo] at d4
        have hq := fun w => eq_ref o.a.n o.a.i a.n a.i w
        by_cases hoa : (⟨o.a.n, o.a.i⟩ : Rf) = ⟨a.n, a.i⟩
        · rw [decide_eq_true hoa] at hq
          have HE : Hid (o.a = a) := ⟨hoa⟩
          clear hoa
          go_wp2_with fail
          go_quiet (fail)
          go_wp2_with fail
          go_ret
          refine ⟨HR.out _ ?_, (f1.trans (fr_drewN _ _)).trans (fr_drewN _ _)⟩
          unfold fdI
          rw [fdR_at HX.out hgo HE.out (fun k o' hk ho' => hI.out k o' hk ho')]
        · rw [decide_eq_false hoa] at hq
          have HE : Hid (¬ o.a = a) := ⟨hoa⟩
          clear hoa
          go_wp2_with fail
          go_quiet (fail)
          go_wp2_with fail
          go_roundw
          case rel => exact ⟨j + 1, _, by omega, by go_num, rfl, ⟨fun k o' hk ho' => by
            rcases Nat.lt_or_ge k j with h | h
            · exact hI.out k o' h ho'
            · obtain rfl : k = j := by omega
              rw [HX.out] at ho'
              cases ho'
              exact fun hh => HE.out hh.2⟩⟩
          case measure => simp [intOf]; omega
    · obtain rfl : j = N := by omega
      have uk : decide ((j : Int) < (j : Int)) = false := decide_eq_false (by omega)
      go_wp2_with fail
      go_ret
      refine ⟨HR.out _ ?_, f1.trans (fr_drewN _ _)⟩
      unfold fdI
      rw [fdR_none (fun k o' ho' => hI.out k o' (by rw [HL.out]; exact (List.getElem?_eq_some_iff.1 ho').1) ho')]

end Go.Proofs.Ytjopmhidldemmaa
