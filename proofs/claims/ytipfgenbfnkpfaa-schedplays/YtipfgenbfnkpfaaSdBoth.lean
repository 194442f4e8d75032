/-
  The program's scheduler and the document's beside each other; viceroylaw15.does over the translation. No statement is proved here.
-/
import Derived.Test.YtipfgenbfnkpfaaSdRefJ
import Derived.Test.YtipfgenbfnkpfaaSdOpen
namespace Go.Proofs.Ytipfgenbfnkpfaa
open Go.RowKit Go.Maps Go.WideMaps

/-- b is the program's, r the document's, both alike, newer than w0; none of their blocks is O's. -/
def Bo (w0 w : World) (b r : Nat) (S : Sd) (Q : List Int) (O : Nat → Prop) : Prop := ∃ (p : Pb) (q : Db), p.b = b ∧ q.b = r ∧ IsS w p S ∧ IsD w q S Q ∧ (∀ k, p.s S k → w0.heap.size ≤ k ∧ ¬ O k ∧ ¬ q.s k) ∧ (∀ k, q.s k → w0.heap.size ≤ k ∧ ¬ O k) ∧ (∀ k, O k → k < w.heap.size) ∧ Fr none' w0 w ∧ Ok S ∧ Rl S Q

section
variable {w0 w w' : World} {b r : Nat} {S : Sd} {Q : List Int} {O : Nat → Prop}
theorem Bo.ok (h : Bo w0 w b r S Q O) : Ok S := by obtain ⟨p, q, _, _, _, _, _, _, _, _, h, _⟩ := h; exact h
theorem Bo.rl (h : Bo w0 w b r S Q O) : Rl S Q := by obtain ⟨p, q, _, _, _, _, _, _, _, _, _, h⟩ := h; exact h
theorem Bo.old (h : Bo w0 w b r S Q O) : Fr none' w0 w := by obtain ⟨p, q, _, _, _, _, _, _, _, h, _⟩ := h; exact h
theorem Bo.keep0 (h : Bo w0 w b r S Q O) (f : Fr none' w w') : Bo w0 w' b r S Q O := by
  obtain ⟨p, q, e1, e2, a1, a2, a3, a4, a5, a6, a7, a8⟩ := h
  exact ⟨p, q, e1, e2, a1.keep0 f, a2.keep0 f, a3, a4, fun k hk => Nat.lt_of_lt_of_le (a5 k hk) f.size, a6.trans f, a7, a8⟩
theorem Bo.more {O' : Nat → Prop} (h : Bo w0 w b r S Q O) (f : Fr none' w w') (ho : ∀ k, O' k → (O k ∨ w.heap.size ≤ k) ∧ k < w'.heap.size) : Bo w0 w' b r S Q O' := by
  obtain ⟨p, q, e1, e2, a1, a2, a3, a4, a5, a6, a7, a8⟩ := h
  refine ⟨p, q, e1, e2, a1.keep0 f, a2.keep0 f, fun k hk => ⟨(a3 k hk).1, fun h' => ?_, (a3 k hk).2.2⟩, fun k hk => ⟨(a4 k hk).1, fun h' => ?_⟩, fun k hk => (ho k hk).2, a6.trans f, a7, a8⟩
  · rcases (ho k h').1 with h1 | h1
    · exact (a3 k hk).2.1 h1
    · have := a1.lt k hk; omega
  · rcases (ho k h').1 with h1 | h1
    · exact (a4 k hk).2 h1
    · have := a2.lt k hk; omega
theorem Bo.sx (h : Bo w0 w b r S Q O) : Sx w0 w b S O := by
  obtain ⟨p, q, e1, e2, a1, a2, a3, a4, a5, a6, a7, a8⟩ := h
  exact ⟨p, e1, a1, fun k hk => ⟨(a3 k hk).1, (a3 k hk).2.1⟩, a5, a6, a7⟩

/-- A call of the one and then of the other. -/
theorem bo_two {f g : FuncId} {args args' : Array Value} {P P' : Ending → Prop} {S' : Sd} {Q' : List Int} (h : Bo w0 w b r S Q O)
    (hp : ∀ p : Pb, p.b = b → IsS w p S → Calls Try.prog f args w fun e w1 => P e ∧ ∃ p', p'.b = p.b ∧ Chg w p S w1 p' S')
    (hd : ∀ (q : Db) (w1 : World), q.b = r → IsD w1 q S Q → Calls Try.prog g args' w1 fun e w2 => P' e ∧ ∃ q', ChgD w1 q w2 q' S' Q') (ok : Ok S') (rl : Rl S' Q') :
    Calls Try.prog f args w fun e w1 => P e ∧ FrO w0 O w w1 ∧ Hid (Calls Try.prog g args' w1 fun e w2 => P' e ∧ Hid (∃ S Q, Bo w0 w2 b r S Q O)) := by
  obtain ⟨p, q, e1, e2, a1, a2, a3, a4, a5, a6, a7, a8⟩ := h
  refine (hp p e1 a1).mono ?_
  rintro e w1 ⟨h1, p', h2, C⟩
  have d1 : IsD w1 q S Q := a2.keep C.fr (fun k hk hk2 => (a3 k hk2).2.2 hk)
  have s1 := C.fr.size
  have hs0 := a6.size
  refine ⟨h1, C.fr.mono (fun k _ hk => ⟨(a3 k hk).1, (a3 k hk).2.1⟩), (hd q w1 e2 d1).mono ?_⟩
  rintro e w2 ⟨h3, q', D⟩
  have s2 := D.fr.size
  have dis : ∀ k, p'.s S' k → w0.heap.size ≤ k ∧ ¬ O k ∧ ¬ q.s k := fun k hk => by
    rcases C.new k hk with h' | h'
    · exact a3 k h'
    · exact ⟨by omega, fun ho => by have := a5 k ho; omega, fun hq => by have := a2.lt k hq; omega⟩
  refine ⟨h3, S', Q', p', q', h2.trans e1, D.b.trans e2, C.is.keep D.fr (fun k hk hk2 => (dis k hk).2.2 hk2), D.is, fun k hk => ⟨(dis k hk).1, (dis k hk).2.1, fun hq => ?_⟩, fun k hk => ?_, fun k hk => Nat.lt_of_lt_of_le (a5 k hk) (Nat.le_trans s1 s2), ?_, ok, rl⟩
  · rcases D.new k hq with h' | h'
    · exact (dis k hk).2.2 h'
    · have := C.is.lt k hk; omega
  · rcases D.new k hk with h' | h'
    · exact a4 k h'
    · exact ⟨by omega, fun ho => by have := a5 k ho; omega⟩
  · have f1 := fr_new a6 C.fr (fun k hk => (a3 k hk).1)
    exact fr_new f1 D.fr (fun k hk => (a4 k hk).1)
end

def acOf (x : Ac) : Array Value := #[.int .i64 x.op, .int .i64 x.i, .int .i64 x.n, .int .i64 x.m]

theorem bo_1 {w0 w : World} {b r : Nat} {S : Sd} {Q : List Int} {O : Nat → Prop} (h : Bo w0 w b r S Q O) (x : Ac) (hx : OkA x) :
    Calls Try.prog 19 #[.pointer (some ⟨b, 0, none⟩), .int .i64 x.i, .int .i64 x.n, .int .i64 x.m] w fun e w1 => (e = .returned (.int .i64 (addE S x.i x.n x.m))) ∧ FrO w0 O w w1 ∧ Hid (Calls Try.prog 26 #[.pointer (some ⟨r, 0, none⟩), .int .i64 x.i, .int .i64 x.n, .int .i64 x.m] w1 fun e w2 => (e = .returned (.int .i64 (addE S x.i x.n x.m))) ∧ Hid (∃ S Q, Bo w0 w2 b r S Q O)) := by
  have a0 := h.ok
  have r0 := h.rl
  have hl0 := r0.len a0.q
  have hl : Q.length ≤ 5000 := by omega
  exact bo_two (P := (fun e => e = .returned (.int .i64 (addE S x.i x.n x.m)))) (P' := (fun e => e = .returned (.int .i64 (addE S x.i x.n x.m)))) h (fun p e a => by subst e; exact add_any w p S a a0.q.cur x.i x.n x.m hx.2.1) (fun q w1 e a => by subst e; exact radd_any w1 q S Q a x.i x.n x.m) (ok_add a0 x.i x.n x.m) (rl_add r0 x.i x.n x.m)

theorem bo_2 {w0 w : World} {b r : Nat} {S : Sd} {Q : List Int} {O : Nat → Prop} (h : Bo w0 w b r S Q O) (x : Ac) (hx : OkA x) :
    Calls Try.prog 27 #[.pointer (some ⟨b, 0, none⟩), .int .i64 x.i] w fun e w1 => (e = .returned (.int .i64 (thrE S x.i))) ∧ FrO w0 O w w1 ∧ Hid (Calls Try.prog 28 #[.pointer (some ⟨r, 0, none⟩), .int .i64 x.i] w1 fun e w2 => (e = .returned (.int .i64 (thrE S x.i))) ∧ Hid (∃ S Q, Bo w0 w2 b r S Q O)) := by
  have a0 := h.ok
  have r0 := h.rl
  have hl0 := r0.len a0.q
  have hl : Q.length ≤ 5000 := by omega
  exact bo_two (P := (fun e => e = .returned (.int .i64 (thrE S x.i)))) (P' := (fun e => e = .returned (.int .i64 (thrE S x.i)))) h (fun p e a => by subst e; exact drop_any w p S a a0.q.cur x.i hx.2.1 a0.q.sh) (fun q w1 e a => by subst e; exact rdrop_any w1 q S Q a hl x.i) (ok_drop a0 x.i) (rl_drop a0.q r0 x.i)

theorem bo_3 {w0 w : World} {b r : Nat} {S : Sd} {Q : List Int} {O : Nat → Prop} (h : Bo w0 w b r S Q O) (x : Ac) (hx : OkA x) :
    Calls Try.prog 20 #[.pointer (some ⟨b, 0, none⟩), .int .i64 x.i] w fun e w1 => (e = .returned (.int .i64 (thrE S x.i))) ∧ FrO w0 O w w1 ∧ Hid (Calls Try.prog 29 #[.pointer (some ⟨r, 0, none⟩), .int .i64 x.i] w1 fun e w2 => (e = .returned (.int .i64 (thrE S x.i))) ∧ Hid (∃ S Q, Bo w0 w2 b r S Q O)) := by
  have a0 := h.ok
  have r0 := h.rl
  have hl0 := r0.len a0.q
  have hl : Q.length ≤ 5000 := by omega
  exact bo_two (P := (fun e => e = .returned (.int .i64 (thrE S x.i)))) (P' := (fun e => e = .returned (.int .i64 (thrE S x.i)))) h (fun p e a => by subst e; exact wake_any w p S a x.i hx.2.1 a0.q.sh) (fun q w1 e a => by subst e; exact rwake_any w1 q S Q a hl x.i) (ok_wake a0 x.i) (rl_wake a0.q r0 x.i)

theorem bo_4 {w0 w : World} {b r : Nat} {S : Sd} {Q : List Int} {O : Nat → Prop} (h : Bo w0 w b r S Q O) (x : Ac) (hx : OkA x) :
    Calls Try.prog 22 #[.pointer (some ⟨b, 0, none⟩), .int .i64 x.i] w fun e w1 => (e = .returned (.int .i64 (thrE S x.i))) ∧ FrO w0 O w w1 ∧ Hid (Calls Try.prog 30 #[.pointer (some ⟨r, 0, none⟩), .int .i64 x.i] w1 fun e w2 => (e = .returned (.int .i64 (thrE S x.i))) ∧ Hid (∃ S Q, Bo w0 w2 b r S Q O)) := by
  have a0 := h.ok
  have r0 := h.rl
  have hl0 := r0.len a0.q
  have hl : Q.length ≤ 5000 := by omega
  exact bo_two (P := (fun e => e = .returned (.int .i64 (thrE S x.i)))) (P' := (fun e => e = .returned (.int .i64 (thrE S x.i)))) h (fun p e a => by subst e; exact (stop_any w p S a a0.q.cur x.i hx.2.1 a0.q.sh).mono fun _ _ ⟨h1, p1, h2, h3, _⟩ => ⟨h1, p1, h2, h3⟩) (fun q w1 e a => by subst e; exact rstop_any w1 q S Q a hl x.i) (ok_stop a0 x.i) (rl_stop a0.q r0 x.i)

theorem bo_5 {w0 w : World} {b r : Nat} {S : Sd} {Q : List Int} {O : Nat → Prop} (h : Bo w0 w b r S Q O) (x : Ac) (hx : OkA x) :
    Calls Try.prog 31 #[.pointer (some ⟨b, 0, none⟩), .int .i64 x.i, .int .i64 x.n] w fun e w1 => (e = .returned (.int .i64 (priE S x.i x.n))) ∧ FrO w0 O w w1 ∧ Hid (Calls Try.prog 32 #[.pointer (some ⟨r, 0, none⟩), .int .i64 x.i, .int .i64 x.n] w1 fun e w2 => (e = .returned (.int .i64 (priE S x.i x.n))) ∧ Hid (∃ S Q, Bo w0 w2 b r S Q O)) := by
  have a0 := h.ok
  have r0 := h.rl
  have hl0 := r0.len a0.q
  have hl : Q.length ≤ 5000 := by omega
  exact bo_two (P := (fun e => e = .returned (.int .i64 (priE S x.i x.n)))) (P' := (fun e => e = .returned (.int .i64 (priE S x.i x.n)))) h (fun p e a => by subst e; exact setpri_any w p S a a0.q.cur x.i x.n hx.2.1 a0.q.sh) (fun q w1 e a => by subst e; exact rpri_any w1 q S Q a hl x.i x.n) (ok_pri a0 x.i x.n) (rl_pri a0.q r0 x.i x.n)

theorem bo_6 {w0 w : World} {b r : Nat} {S : Sd} {Q : List Int} {O : Nat → Prop} (h : Bo w0 w b r S Q O) (x : Ac) (hx : OkA x) :
    Calls Try.prog 33 #[.pointer (some ⟨b, 0, none⟩), .int .i64 x.i, .int .i64 x.m] w fun e w1 => (e = .returned (.int .i64 (domE S x.i x.m))) ∧ FrO w0 O w w1 ∧ Hid (Calls Try.prog 34 #[.pointer (some ⟨r, 0, none⟩), .int .i64 x.i, .int .i64 x.m] w1 fun e w2 => (e = .returned (.int .i64 (domE S x.i x.m))) ∧ Hid (∃ S Q, Bo w0 w2 b r S Q O)) := by
  have a0 := h.ok
  have r0 := h.rl
  have hl0 := r0.len a0.q
  have hl : Q.length ≤ 5000 := by omega
  exact bo_two (P := (fun e => e = .returned (.int .i64 (domE S x.i x.m)))) (P' := (fun e => e = .returned (.int .i64 (domE S x.i x.m)))) h (fun p e a => by subst e; exact setdom_any w p S a a0.q.cur x.i x.m hx.2.1 a0.q.sh) (fun q w1 e a => by subst e; exact rsdom_any w1 q S Q a hl x.i x.m) (ok_dom a0 x.i x.m) (rl_dom a0.q r0 x.i x.m)

theorem bo_7 {w0 w : World} {b r : Nat} {S : Sd} {Q : List Int} {O : Nat → Prop} (h : Bo w0 w b r S Q O) :
    Calls Try.prog 23 #[.pointer (some ⟨b, 0, none⟩)] w fun e w1 => (e = .returned (.int .i64 (yieE S))) ∧ FrO w0 O w w1 ∧ Hid (Calls Try.prog 35 #[.pointer (some ⟨r, 0, none⟩)] w1 fun e w2 => (e = .returned (.int .i64 (yieE S))) ∧ Hid (∃ S Q, Bo w0 w2 b r S Q O)) := by
  have a0 := h.ok
  have r0 := h.rl
  have hl0 := r0.len a0.q
  have hl : Q.length ≤ 5000 := by omega
  exact bo_two (P := (fun e => e = .returned (.int .i64 (yieE S)))) (P' := (fun e => e = .returned (.int .i64 (yieE S)))) h (fun p e a => by subst e; exact yield_any w p S a a0.q.cur a0.q.sh) (fun q w1 e a => by subst e; exact ryield_any w1 q S Q a hl a0.q.cur) (ok_yield a0) (rl_yield a0.q r0)

theorem bo_8 {w0 w : World} {b r : Nat} {S : Sd} {Q : List Int} {O : Nat → Prop} (h : Bo w0 w b r S Q O) :
    Calls Try.prog 21 #[.pointer (some ⟨b, 0, none⟩)] w fun e w1 => (∃ v, e = .returned v) ∧ FrO w0 O w w1 ∧ Hid (Calls Try.prog 36 #[.pointer (some ⟨r, 0, none⟩)] w1 fun e w2 => (∃ v, e = .returned v) ∧ Hid (∃ S Q, Bo w0 w2 b r S Q O)) := by
  have a0 := h.ok
  have r0 := h.rl
  have hl0 := r0.len a0.q
  have hl : Q.length ≤ 5000 := by omega
  exact bo_two (P := (fun e => ∃ v, e = .returned v)) (P' := (fun e => ∃ v, e = .returned v)) h (fun p e a => by subst e; exact (tick_any w p S a a0).mono fun _ _ ⟨v, h1, h2⟩ => ⟨⟨v, h1⟩, h2⟩) (fun q w1 e a => by subst e; exact (rtick_any w1 q S Q a a0 hl).mono fun _ _ ⟨v, h1, h2⟩ => ⟨⟨v, h1⟩, h2⟩) (ok_tick a0) (rl_tick a0.q r0)

theorem bo_9 {w0 w : World} {b r : Nat} {S : Sd} {Q : List Int} {O : Nat → Prop} (h : Bo w0 w b r S Q O) :
    Calls Try.prog 14 #[.pointer (some ⟨b, 0, none⟩)] w fun e w1 => (∃ v, e = .returned v) ∧ FrO w0 O w w1 ∧ Hid (Calls Try.prog 37 #[.pointer (some ⟨r, 0, none⟩)] w1 fun e w2 => (∃ v, e = .returned v) ∧ Hid (∃ S Q, Bo w0 w2 b r S Q O)) := by
  have a0 := h.ok
  have r0 := h.rl
  have hl0 := r0.len a0.q
  have hl : Q.length ≤ 5000 := by omega
  exact bo_two (P := (fun e => ∃ v, e = .returned v)) (P' := (fun e => ∃ v, e = .returned v)) h (fun p e a => by subst e; exact (settle_any w p S a a0).mono fun _ _ ⟨v, h1, h2⟩ => ⟨⟨v, h1⟩, h2⟩) (fun q w1 e a => by subst e; exact (rsettle_any w1 q S Q a a0 (by omega) r0.al (fun _ => higOk a0.q a0.t r0) (fun h1 h2 => higOk (okq_backE a0.q h1) (goodT_back a0.t _) (rl_backE a0.q r0 h1))).mono fun _ _ ⟨v, h1, h2⟩ => ⟨⟨v, h1⟩, h2⟩) (ok_settle a0) (rl_settle a0 r0)

set_option maxRecDepth 100000 in
set_option maxHeartbeats 4000000 in
theorem does_any {w0 w : World} {b r : Nat} {S : Sd} {Q : List Int} (h : Bo w0 w b r S Q (fun _ => False)) (x : Ac) (hx : OkA x) : Calls Try.prog 12 #[.pointer (some ⟨b, 0, none⟩), .pointer (some ⟨r, 0, none⟩), acV x] w fun e w' => e = .returned (.bool true) ∧ Hid (∃ S Q, Bo w0 w' b r S Q (fun _ => False)) := by
  have fa := (Fr.refl none' w).alloc (.cells (acOf x) 36)
  have B := h.more (O' := fun k => k = w.heap.size) fa (fun k hk => ⟨Or.inr (by omega), by simp; omega⟩)
  have ra := row_alloc w (acOf x) 36
  have HZ : Hid (∀ w2, (∃ S Q, Bo w0 w2 b r S Q (fun k => k = w.heap.size)) → ∃ S Q, Bo w0 w2 b r S Q (fun _ => False)) := fun w2 ⟨S, Q, h⟩ => ⟨S, Q, h.more (Fr.refl _ _) (fun k hk => hk.elim)⟩
  have HR : Hid (∀ w1, FrO w0 (fun k => k = w.heap.size) (w.alloc (.cells (acOf x) 36)) w1 → Row w1 w.heap.size (acOf x) 36) := fun w1 f => Row.keep ra f (fun h => h.2 rfl)
  have HK : Hid (∃ S Q, Bo w0 (w.alloc (.cells (acOf x) 36)) b r S Q (fun k => k = w.heap.size)) := ⟨S, Q, B⟩
  have c0 := ra.cell 0
  have c1 := ra.cell 1
  have c2 := ra.cell 2
  have c3 := ra.cell 3
  unfold acV acC
  dsimp [acOf] at c0 c1 c2 c3
  clear fa h ra
  by_cases h1 : x.op = 1
  · have g1 : (x.op == 1) = true := by simpa using h1
    have T := bo_1 B x hx
    clear B HK
    dsimp only [acOf] at T HR HZ
    clear h1
    go_enter Try.func12, Try.ntmps12
    go_wp2_with fail
    refine T.mono ?_
    clear T
    rintro e w1 ⟨rfl, f1, HD⟩
    have ra := HR.out _ f1
    have d1 := ra.cell 1
    have d2 := ra.cell 2
    have d3 := ra.cell 3
    dsimp at d1 d2 d3
    clear ra f1 HR
    go_wp2_with fail
    refine Calls.mono HD.out ?_
    rintro e w2 ⟨rfl, HE⟩
    clear HD
    generalize addE S x.i x.n x.m = ee at *
    have se : (ee == ee) = true := by simp
    go_wp2_with fail
    go_ret
    exact ⟨by first | rfl | simp, HZ.out _ HE.out⟩
  have g1 : (x.op == 1) = false := by simpa using h1
  by_cases h2 : x.op = 2
  · have g2 : (x.op == 2) = true := by simpa using h2
    have T := bo_2 B x hx
    clear B HK
    dsimp only [acOf] at T HR HZ
    clear h2
    go_enter Try.func12, Try.ntmps12
    go_wp2_with fail
    refine T.mono ?_
    clear T
    rintro e w1 ⟨rfl, f1, HD⟩
    have ra := HR.out _ f1
    have d1 := ra.cell 1
    have d2 := ra.cell 2
    have d3 := ra.cell 3
    dsimp at d1 d2 d3
    clear ra f1 HR
    go_wp2_with fail
    refine Calls.mono HD.out ?_
    rintro e w2 ⟨rfl, HE⟩
    clear HD
    generalize thrE S x.i = ee at *
    have se : (ee == ee) = true := by simp
    go_wp2_with fail
    go_ret
    exact ⟨by first | rfl | simp, HZ.out _ HE.out⟩
  have g2 : (x.op == 2) = false := by simpa using h2
  by_cases h3 : x.op = 3
  · have g3 : (x.op == 3) = true := by simpa using h3
    have T := bo_3 B x hx
    clear B HK
    dsimp only [acOf] at T HR HZ
    clear h3
    go_enter Try.func12, Try.ntmps12
    go_wp2_with fail
    refine T.mono ?_
    clear T
    rintro e w1 ⟨rfl, f1, HD⟩
    have ra := HR.out _ f1
    have d1 := ra.cell 1
    have d2 := ra.cell 2
    have d3 := ra.cell 3
    dsimp at d1 d2 d3
    clear ra f1 HR
    go_wp2_with fail
    refine Calls.mono HD.out ?_
    rintro e w2 ⟨rfl, HE⟩
    clear HD
    generalize thrE S x.i = ee at *
    have se : (ee == ee) = true := by simp
    go_wp2_with fail
    go_ret
    exact ⟨by first | rfl | simp, HZ.out _ HE.out⟩
  have g3 : (x.op == 3) = false := by simpa using h3
  by_cases h4 : x.op = 4
  · have g4 : (x.op == 4) = true := by simpa using h4
    have T := bo_4 B x hx
    clear B HK
    dsimp only [acOf] at T HR HZ
    clear h4
    go_enter Try.func12, Try.ntmps12
    go_wp2_with fail
    refine T.mono ?_
    clear T
    rintro e w1 ⟨rfl, f1, HD⟩
    have ra := HR.out _ f1
    have d1 := ra.cell 1
    have d2 := ra.cell 2
    have d3 := ra.cell 3
    dsimp at d1 d2 d3
    clear ra f1 HR
    go_wp2_with fail
    refine Calls.mono HD.out ?_
    rintro e w2 ⟨rfl, HE⟩
    clear HD
    generalize thrE S x.i = ee at *
    have se : (ee == ee) = true := by simp
    go_wp2_with fail
    go_ret
    exact ⟨by first | rfl | simp, HZ.out _ HE.out⟩
  have g4 : (x.op == 4) = false := by simpa using h4
  by_cases h5 : x.op = 5
  · have g5 : (x.op == 5) = true := by simpa using h5
    have T := bo_5 B x hx
    clear B HK
    dsimp only [acOf] at T HR HZ
    clear h5
    go_enter Try.func12, Try.ntmps12
    go_wp2_with fail
    refine T.mono ?_
    clear T
    rintro e w1 ⟨rfl, f1, HD⟩
    have ra := HR.out _ f1
    have d1 := ra.cell 1
    have d2 := ra.cell 2
    have d3 := ra.cell 3
    dsimp at d1 d2 d3
    clear ra f1 HR
    go_wp2_with fail
    refine Calls.mono HD.out ?_
    rintro e w2 ⟨rfl, HE⟩
    clear HD
    generalize priE S x.i x.n = ee at *
    have se : (ee == ee) = true := by simp
    go_wp2_with fail
    go_ret
    exact ⟨by first | rfl | simp, HZ.out _ HE.out⟩
  have g5 : (x.op == 5) = false := by simpa using h5
  by_cases h6 : x.op = 6
  · have g6 : (x.op == 6) = true := by simpa using h6
    have T := bo_6 B x hx
    clear B HK
    dsimp only [acOf] at T HR HZ
    clear h6
    go_enter Try.func12, Try.ntmps12
    go_wp2_with fail
    refine T.mono ?_
    clear T
    rintro e w1 ⟨rfl, f1, HD⟩
    have ra := HR.out _ f1
    have d1 := ra.cell 1
    have d2 := ra.cell 2
    have d3 := ra.cell 3
    dsimp at d1 d2 d3
    clear ra f1 HR
    go_wp2_with fail
    refine Calls.mono HD.out ?_
    rintro e w2 ⟨rfl, HE⟩
    clear HD
    generalize domE S x.i x.m = ee at *
    have se : (ee == ee) = true := by simp
    go_wp2_with fail
    go_ret
    exact ⟨by first | rfl | simp, HZ.out _ HE.out⟩
  have g6 : (x.op == 6) = false := by simpa using h6
  by_cases h7 : x.op = 7
  · have g7 : (x.op == 7) = true := by simpa using h7
    have T := bo_7 B
    clear B HK
    dsimp only [acOf] at T HR HZ
    clear h7
    go_enter Try.func12, Try.ntmps12
    go_wp2_with fail
    refine T.mono ?_
    clear T
    rintro e w1 ⟨rfl, f1, HD⟩
    have ra := HR.out _ f1
    have d1 := ra.cell 1
    have d2 := ra.cell 2
    have d3 := ra.cell 3
    dsimp at d1 d2 d3
    clear ra f1 HR
    go_wp2_with fail
    refine Calls.mono HD.out ?_
    rintro e w2 ⟨rfl, HE⟩
    clear HD
    generalize yieE S = ee at *
    have se : (ee == ee) = true := by simp
    go_wp2_with fail
    go_ret
    exact ⟨by first | rfl | simp, HZ.out _ HE.out⟩
  have g7 : (x.op == 7) = false := by simpa using h7
  by_cases h8 : x.op = 8
  · have g8 : (x.op == 8) = true := by simpa using h8
    have T := bo_8 B
    clear B HK
    dsimp only [acOf] at T HR HZ
    clear h8
    go_enter Try.func12, Try.ntmps12
    go_wp2_with fail
    refine T.mono ?_
    clear T
    rintro e w1 ⟨⟨v1, rfl⟩, f1, HD⟩
    have ra := HR.out _ f1
    have d1 := ra.cell 1
    have d2 := ra.cell 2
    have d3 := ra.cell 3
    dsimp at d1 d2 d3
    clear ra f1 HR
    go_wp2_with fail
    refine Calls.mono HD.out ?_
    rintro e w2 ⟨⟨v2, rfl⟩, HE⟩
    clear HD
    go_wp2_with fail
    go_ret
    exact ⟨by first | rfl | simp, HZ.out _ HE.out⟩
  have g8 : (x.op == 8) = false := by simpa using h8
  by_cases h9 : x.op = 9
  · have g9 : (x.op == 9) = true := by simpa using h9
    have T := bo_9 B
    clear B HK
    dsimp only [acOf] at T HR HZ
    clear h9
    go_enter Try.func12, Try.ntmps12
    go_wp2_with fail
    refine T.mono ?_
    clear T
    rintro e w1 ⟨⟨v1, rfl⟩, f1, HD⟩
    have ra := HR.out _ f1
    have d1 := ra.cell 1
    have d2 := ra.cell 2
    have d3 := ra.cell 3
    dsimp at d1 d2 d3
    clear ra f1 HR
    go_wp2_with fail
    refine Calls.mono HD.out ?_
    rintro e w2 ⟨⟨v2, rfl⟩, HE⟩
    clear HD
    go_wp2_with fail
    go_ret
    exact ⟨by first | rfl | simp, HZ.out _ HE.out⟩
  have g9 : (x.op == 9) = false := by simpa using h9
  clear B HR
  dsimp only [acOf] at HK HZ
  clear h1 h2 h3 h4 h5 h6 h7 h8 h9
  go_enter Try.func12, Try.ntmps12
  go_wp2_with fail
  go_ret
  exact ⟨rfl, HZ.out _ HK.out⟩

end Go.Proofs.Ytipfgenbfnkpfaa
