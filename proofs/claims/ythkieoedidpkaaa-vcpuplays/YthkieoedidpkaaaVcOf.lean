/-
  Of, Bind, Unbind of package vcpu over the translation. No statement is proved here.
-/
import Derived.Test.YthkieoedidpkaaaVcOpsB
namespace Go.Proofs.Ythkieoedidpkaaa
open Go.RowKit Go.Maps Go.WideMaps

def mkP : Option Nat → Value
  | none => .pointer none
  | some g => pv g
theorem pinv_el {v : Value} {y : DataW Unit × List MemPlace} (h : pgEl v = some y) : ∃ c : Option Nat, v = mkP c := by
  rcases pgEl_inv h with ⟨g, rfl, _⟩ | ⟨rfl, _⟩
  · exact ⟨some g, rfl⟩
  · exact ⟨none, rfl⟩
/-- What a step of a range over a map of pointers tells. -/
theorem pnext_is {D : DataW Unit} {n : Nat} {f : Int → Option Nat} (M : PMg D n f) {kl : Lit} {c : Option Nat} {y : DataW Unit × List MemPlace} (hv : pgEl (mkP c) = some y) (hat : ∀ zd, D.atKey kl zd = y.1) : ∃ (k : Int) (g : Nat), kl = .int .i64 k ∧ f k = some g ∧ c = some g := by
  obtain ⟨k, rfl⟩ := M.key kl (has_true_of_atKey hat)
  have hs := M.has k
  rw [has_true_of_atKey hat] at hs
  cases hf : f k with
  | none => rw [hf] at hs; cases hs
  | some g =>
    have e := M.at' k g hf pgd0
    rw [hat] at e
    refine ⟨k, g, rfl, hf, ?_⟩
    cases c with
    | none =>
      have : y = (pgd0, []) := by
        have h2 : pgEl (mkP none) = some (pgd0, []) := rfl
        rw [h2] at hv
        exact (Option.some.inj hv).symm
      rw [this] at e
      exact absurd e.symm pgd_ne
    | some g' =>
      have : y = (pgd g', []) := by
        have h2 : pgEl (mkP (some g')) = some (pgd g', []) := rfl
        rw [h2] at hv
        exact (Option.some.inj hv).symm
      rw [this] at e
      rw [pgd_inj e]
/-- The step of a range over a map of pointers. -/
theorem wpList_next_p {w : World} {ops : Array Oper} {rest : List Oper} {o : Oper} {a : Act} {Q : Exit → Act → World → Prop} (hg : o.guard = none) (it : Operand) (hop : o.op = Op.next it false) (b r n : Nat) (D : DataW Unit) (f : Int → Option Nat) (M : PMg D n f) (left : Lit → Bool) (ct : Nat)
    (hit : a.eval it = .pointer (some ⟨r, 0, none⟩)) (h : w.ranges Try.prog 3 pgEl b r n D left ct)
    (hDone : (∀ kl, left kl = false) → wpList Try.prog ops Q rest (a.put o.dst (.tuple #[.bool false])) w)
    (hMore : ∀ (k : Int) (g : Nat) (w' : World) (ct' : Nat), f k = some g → w'.ranges Try.prog 3 pgEl b r n D (fun z => left z && !z.sameKey (.int .i64 k)) ct' → ct' < ct → w.grownBy w' (some r) →
      (Instr.entry (.pointer (some ⟨r, 0, none⟩))).run Try.prog w' = .ok (.tuple #[.int .i64 k, pv g]) w' → wpList Try.prog ops Q rest (a.put o.dst (.tuple #[.bool true, .int .i64 k, pv g])) w') :
    wpList Try.prog ops Q (o :: rest) a w :=
  wpList_next_ranges w hg it hop 3 law3 pgEl (Value.int .i64) mkP (fun _ _ hk => inv_key hk) (fun _ _ hv => pinv_el hv) b r n D left ct hit h (fun _ hl => hDone hl)
    (fun x c kl y w' ct' hkey hlk hv hat hrg hlt hgr hsz hen => by
      obtain ⟨k, g, rfl, hf, rfl⟩ := pnext_is M hv hat
      obtain ⟨x', ex, e, _⟩ := Maps.keyOf_int_inv Try.underlying3 hkey
      obtain rfl : k = x' := by simpa using e
      cases ex
      exact hMore _ g w' ct' hf hrg hlt hgr hen)
/-- The one with that thread is the one that Of tells. -/
theorem of_is {S : Vp} (g : GoodP S) {t : Int} (ht : rgB t 0 1023 = true) {x : Vc} (hx : x ∈ S.L) (e : x.th = t) : ofI S t = x.id := by
  unfold ofI
  rw [if_pos ht]
  have ht0 := rg_iff.1 ht
  cases h : ofO S t with
  | none =>
    have := List.find?_eq_none.1 h x hx
    exact absurd (by simpa using e) this
  | some y =>
    have hy := List.mem_of_find?_eq_some h
    have hyt : y.th = t := by simpa using List.find?_some h
    exact g.ths y hy x hx (by rw [hyt, e]) (by rw [hyt]; omega)
theorem of_no {S : Vp} {t : Int} (h : ∀ x ∈ S.L, x.th ≠ t) : ofI S t = -1 := by
  unfold ofI
  split
  · have : ofO S t = none := List.find?_eq_none.2 fun x hx e => h x hx (by simpa using e)
    rw [this]
  · rfl

set_option maxRecDepth 100000 in
set_option maxHeartbeats 4000000 in
theorem of_any (w : World) (p : Pp) (S : Vp) (h : IsP w p S) (t : Int) : Calls Try.prog 40 #[pv p.b, .int .i64 t] w fun e w' => e = .returned (.int .i64 (ofI S t)) ∧ Fr none' w w' := by
  obtain ⟨_, c1, _⟩ := h.st
  have X := isnum_any t w
  cases ht : rgB t 0 1023 with
  | false =>
    have HO : Hid (ofI S t = -1) := by show ofI S t = -1; unfold ofI; rw [ht]; rfl
    rw [ht] at X
    clear h ht
    go_enter Try.func40, Try.ntmps40
    go_wp2_with fail
    refine X.mono ?_
    rintro e w1 ⟨rfl, rfl⟩
    go_wp2_with fail
    go_ret
    rw [HO.out]
    exact ⟨rfl, Fr.refl _ _⟩
  | true =>
    rw [ht] at X
    obtain ⟨D, hown, M⟩ := h.mp
    have HM : Hid (PMg D S.L.length (fun k => (fnd S.L k).map fun _ => p.B k)) := M
    have HC : Hid (∀ W, Fr none' w W → ∀ k x, fnd S.L k = some x → W.cell? ⟨p.B k, 9, none⟩ = some (.int .i64 x.th)) := fun W f k x hx => by
      obtain ⟨⟨⟨a, r, _⟩, _⟩, hid, _⟩ := (h.keep0 f).has hx
      rw [hid] at r
      exact r.cell 9
    have HG : Hid (GoodP S ∧ rgB t 0 1023 = true) := ⟨h.good, ht⟩
    obtain ⟨N, hN⟩ : ∃ N, N = S.L.length := ⟨_, rfl⟩
    rw [← hN] at hown HM
    clear h M ht hN
    go_enter Try.func40, Try.ntmps40
    go_wp2_with fail
    refine X.mono ?_
    rintro e w1 ⟨rfl, rfl⟩
    clear X
    go_wp2_with (first | (at_range; refine wpList_range_own _ rfl _ 49 rfl 3 70 law3 Try.underlying49 _ p.m N D rfl hown ?_; intro w0 hrg0 hg0 hs0))
    go_frame
    have f0 := fr_grown0 hg0
    go_loopw [4] (fun i wr => ∃ (left : Lit → Bool) (ct : Nat), wr.ranges Try.prog 3 pgEl p.m w1.heap.size N D left ct ∧ i = .int .i64 0 ∧ Fr none' w1 wr ∧ Hid (∀ k x, fnd S.L k = some x → left (.int .i64 k) = false → x.th ≠ t)) (fun _ wr => wr.rangeLeft p.m w1.heap.size)
    case atStart =>
      refine ⟨_, _, hrg0, rfl, f0, fun k x hx hl => ?_⟩
      exfalso
      have e := HM.out.has k
      rw [hl] at e
      simp [hx] at e
    case round =>
      clear hrg0 hg0 hs0 f0 hown
      obtain ⟨left, ct, hrg, rfl, fk, h1⟩ := hrel
      have HGR : Hid (wr.ranges Try.prog 3 pgEl p.m w1.heap.size N D left ct) := hrg
      go_wp2_with (first | (at_next; refine wpList_next_p rfl _ rfl p.m w1.heap.size N D _ HM.out left ct rfl hrg (fun hl => ?_) (fun k g w2 ct1 hk hrg1 hlt hgr hen => ?_); rotate_left; (obtain ⟨x, hx⟩ : ∃ x, fnd S.L k = some x := (by cases hh : fnd S.L k with | none => (simp [hh] at hk) | some x => exact ⟨x, rfl⟩)); (obtain rfl : p.B k = g := (by simpa [hx] using hk)); (have F2 : Fr none' w1 w2 := fk.newer (fr_map hgr) (Nat.le_refl _)); (have c9 := HC.out w2 F2 k x hx); (by_cases e : x.th = t); (have d1 : (x.th == t) = true := (by simpa using e)); rotate_left; (have d1 : (x.th == t) = false := (by simpa using e)); rotate_left; rotate_left))
      · obtain ⟨h1', h2', h3'⟩ : x ∈ S.L ∧ x.id = k ∧ x.th = t := by
          obtain ⟨q1, q2⟩ := fnd_mem hx
          exact ⟨q1, q2, by simpa using d1⟩
        have HO : Hid (ofI S t = k) := (of_is HG.out.1 HG.out.2 h1' h3').trans h2'
        go_ret
        rw [HO.out]
        exact ⟨rfl, F2⟩
      · refine ⟨⟨_, ct1, hrg1, rfl, F2, fun k' x' hx' he => ?_⟩, by rw [hrg1.left_eq, HGR.out.left_eq]; exact hlt⟩
        cases hl : left (.int .i64 k') with
        | false => exact h1.out k' x' hx' hl
        | true =>
          rw [hl] at he
          have e := WideAt.sameKey_eq (by simpa using he : (Lit.int .i64 k').sameKey (.int .i64 k) = true)
          obtain rfl : k' = k := by simpa using e
          rw [hx] at hx'
          cases hx'
          simpa using d1
      · have HO : Hid (ofI S t = -1) := of_no fun x hx => by
          have := fnd_of_mem HG.out.1.one hx
          exact h1.out x.id x this (hl _)
        go_ret
        rw [HO.out]
        exact ⟨rfl, fk⟩

/-- One's thread turned. -/
theorem IsP.bound {w : World} {p : Pp} {S : Vp} (h : IsP w p S) {id : Int} {x : Vc} (hx : fnd S.L id = some x) (t : Int) (hg : GoodP { S with L := upd S.L id (setT t) }) : ChP w p S (w.setCell ⟨p.B id, 9, none⟩ (.int .i64 t)) p { S with L := upd S.L id (setT t) } := by
  obtain ⟨⟨⟨a, r, ea⟩, hv⟩, hid, hin, _⟩ := h.has hx
  have hbn := (h.bne hin).1
  have hBn := h.Bne hin hin
  rw [hid] at r hv hbn hBn
  have f := fr_set w (p.B id) 9 (.int .i64 t) (Fr.refl (at' (p.B id)) w)
  refine h.turn f (g := setT t) (fun _ => rfl) (fun j hj => Or.inr ⟨by rw [hx]; rfl, hj⟩) hg ?_ (fun y hy => ?_) (fun y _ _ e => e)
  · have : bkF ⟨upd S.L id (setT t), S.ld, S.lrs⟩ = bkF S := by
      rw [bk_upd (g := setT t) (fun _ => rfl) hx]
      by_cases e : S.ld = id
      · rw [if_pos e, bk_some (S := S) (by rw [e]; exact hx)]
        rfl
      · rw [if_neg e]
    rw [this]
    exact h.row.keep f (fun e => hbn e)
  · rw [hx] at hy
    cases hy
    refine ⟨⟨a, ?_, fun e => ea e⟩, ?_⟩
    · show Row _ (p.B x.id) (prC a (p.K x.id).b t) _
      rw [hid]
      have r' := r.setCell 9 (.int .i64 t)
      exact r'
    · show IsVg _ (p.K x.id) x.vg
      rw [hid]
      exact hv.keep f (fun j hj e => by
        have e : j = p.B id := e
        subst e
        exact hBn hj)
set_option maxRecDepth 100000 in
set_option maxHeartbeats 4000000 in
theorem unbind_any (w : World) (p : Pp) (S : Vp) (h : IsP w p S) (id : Int) (hi : I64 id) : Calls Try.prog 25 #[pv p.b, .int .i64 id] w fun e w' => e = .returned (.int .i64 (unbE S id)) ∧ ChP w p S w' p (unbS S id) := by
  obtain ⟨_, c1, _⟩ := h.st
  have X := has_any' w p S h id hi
  have Y := thread_any w p S h id hi
  have HC : Hid (ChP w p S w p S) := ChP.same h (Fr.refl _ _)
  cases e : hasB S id with
  | false =>
    have HE : Hid (unbE S id = 181 ∧ unbS S id = S) := by
      have h1 : unbE S id = 181 := by unfold unbE; rw [e]; rfl
      exact ⟨h1, by unfold unbS; rw [h1]; rfl⟩
    rw [e] at X
    clear h hi e Y
    go_enter Try.func25, Try.ntmps25
    go_wp2_with fail
    refine X.mono ?_
    rintro e w1 ⟨rfl, rfl⟩
    go_wp2_with fail
    go_ret
    rw [HE.out.1, HE.out.2]
    exact ⟨rfl, HC.out⟩
  | true =>
    obtain ⟨x, hx⟩ := has_iff.1 e
    have hth : thrI S id = x.th := by unfold thrI; rw [hx]
    rw [hth] at Y
    by_cases ht : x.th = -1
    · have HE : Hid (unbE S id = 180 ∧ unbS S id = S) := by
        have h1 : unbE S id = 180 := by unfold unbE; rw [e, hth, if_pos rfl, if_pos ht]
        exact ⟨h1, by unfold unbS; rw [h1]; rfl⟩
      rw [e] at X
      rw [ht] at Y
      clear h hi e hx hth ht
      go_enter Try.func25, Try.ntmps25
      go_wp2_with fail
      refine X.mono ?_
      rintro e w1 ⟨rfl, rfl⟩
      go_wp2_with fail
      refine Y.mono ?_
      rintro e w1 ⟨rfl, rfl⟩
      go_wp2_with fail
      go_ret
      rw [HE.out.1, HE.out.2]
      exact ⟨rfl, HC.out⟩
    · have h1 : unbE S id = 0 := by unfold unbE; rw [e, hth, if_pos rfl, if_neg ht]
      have h2 : unbS S id = { S with L := upd S.L id (setT (-1)) } := by unfold unbS; rw [if_pos h1]
      have hg := good_unb h.good id
      rw [h2] at hg
      have HE : Hid (unbE S id = 0 ∧ ChP w p S (w.setCell ⟨p.B id, 9, none⟩ (.int .i64 (-1))) p (unbS S id)) := ⟨h1, by rw [h2]; exact h.bound hx (-1) hg⟩
      have d1 : (x.th == -1) = false := by simpa using ht
      rw [e] at X
      have l2 := ((h.look hi).2 x hx).2
      obtain ⟨⟨⟨a, r, _⟩, _⟩, hid, _⟩ := h.has hx
      rw [hid] at r
      have c9 : w.cell? ⟨p.B id, 9, none⟩ = some (.int .i64 x.th) := r.cell 9
      have z9 := r.frozen 9
      clear h hi e hx hth ht h1 h2 hg r
      go_enter Try.func25, Try.ntmps25
      go_wp2_with fail
      refine X.mono ?_
      rintro e w1 ⟨rfl, rfl⟩
      go_wp2_with fail
      refine Y.mono ?_
      rintro e w1 ⟨rfl, rfl⟩
      go_wp2_with fail
      go_ret
      rw [HE.out.1]
      exact ⟨rfl, HE.out.2⟩
set_option maxRecDepth 100000 in
set_option maxHeartbeats 4000000 in
theorem bind_any (w : World) (p : Pp) (S : Vp) (h : IsP w p S) (id t : Int) (hi : I64 id) : Calls Try.prog 18 #[pv p.b, .int .i64 id, .int .i64 t] w fun e w' => e = .returned (.int .i64 (binE S id t)) ∧ ChP w p S w' p (binS S id t) := by
  obtain ⟨_, c1, _⟩ := h.st
  have X := has_any' w p S h id hi
  have Z := isnum_any t w
  have Y := thread_any w p S h id hi
  have O := of_any w p S h t
  have HC : Hid (ChP w p S w p S) := ChP.same h (Fr.refl _ _)
  cases e : hasB S id with
  | false =>
    have HE : Hid (binE S id t = 181 ∧ binS S id t = S) := by
      have h1 : binE S id t = 181 := by unfold binE; rw [e]; rfl
      exact ⟨h1, by unfold binS; rw [h1]; rfl⟩
    rw [e] at X
    clear h hi e Y O Z
    go_enter Try.func18, Try.ntmps18
    go_wp2_with fail
    refine X.mono ?_
    rintro e w1 ⟨rfl, rfl⟩
    go_wp2_with fail
    go_ret
    rw [HE.out.1, HE.out.2]
    exact ⟨rfl, HC.out⟩
  | true =>
    cases hr : rgB t 0 1023 with
    | false =>
      have HE : Hid (binE S id t = 1 ∧ binS S id t = S) := by
        have h1 : binE S id t = 1 := by unfold binE; rw [e, hr]; rfl
        exact ⟨h1, by unfold binS; rw [h1]; rfl⟩
      rw [e] at X
      rw [hr] at Z
      clear h hi e Y O hr
      go_enter Try.func18, Try.ntmps18
      go_wp2_with fail
      refine X.mono ?_
      rintro e w1 ⟨rfl, rfl⟩
      go_wp2_with fail
      refine Z.mono ?_
      rintro e w1 ⟨rfl, rfl⟩
      go_wp2_with fail
      go_ret
      rw [HE.out.1, HE.out.2]
      exact ⟨rfl, HC.out⟩
    | true =>
      obtain ⟨x, hx⟩ := has_iff.1 e
      have hth : thrI S id = x.th := by unfold thrI; rw [hx]
      have hE : binE S id t = if x.th = -1 ∧ ofI S t = -1 then 0 else 180 := by unfold binE; rw [e, hr, hth]; rfl
      rw [hth] at Y
      rw [e] at X
      rw [hr] at Z
      by_cases ht : x.th = -1
      · have d1 : (x.th != -1) = false := by simpa using ht
        by_cases ho : ofI S t = -1
        · have d2 : (ofI S t != -1) = false := by simpa using ho
          have h1 : binE S id t = 0 := by rw [hE, if_pos ⟨ht, ho⟩]
          have h2 : binS S id t = { S with L := upd S.L id (setT t) } := by unfold binS; rw [if_pos h1]
          have hg := good_bin h.good id t
          rw [h2] at hg
          have HE : Hid (binE S id t = 0 ∧ ∀ W, Fr none' w W → ChP w p S (W.setCell ⟨p.B id, 9, none⟩ (.int .i64 t)) p (binS S id t)) := ⟨h1, fun W f => by rw [h2]; exact ChP.before f h ((h.keep0 f).bound hx t hg)⟩
          have HL : Hid (∀ W, Fr none' w W → W.cell? ⟨p.b, 1, none⟩ = some (.map (some p.m)) ∧ (Instr.lookup 49 (.map (some p.m)) (.int .i64 id) false).run Try.prog W = .ok (pv (p.B id)) W ∧ W.cell? ⟨p.B id, 9, none⟩ = some (.int .i64 x.th) ∧ W.frozen? ⟨p.B id, 9, none⟩ = false) := fun W f => by
            have h' := h.keep0 f
            obtain ⟨⟨⟨a, r, _⟩, _⟩, hid, _⟩ := h'.has hx
            rw [hid] at r
            exact ⟨h'.st.2.1, ((h'.look hi).2 x hx).2, r.cell 9, r.frozen 9⟩
          rw [ho] at O
          rw [ht] at Y
          clear h hi e hx hth ht h1 h2 hg hE ho hr
          go_enter Try.func18, Try.ntmps18
          go_wp2_with fail
          refine X.mono ?_
          rintro e w1 ⟨rfl, rfl⟩
          go_wp2_with fail
          refine Z.mono ?_
          rintro e w1 ⟨rfl, rfl⟩
          go_wp2_with fail
          refine Y.mono ?_
          rintro e w1 ⟨rfl, rfl⟩
          go_wp2_with fail
          refine O.mono ?_
          rintro e w2 ⟨rfl, f2⟩
          obtain ⟨k1, l2, c9, z9⟩ := HL.out w2 f2
          have HK : Hid _ := HE.out.2 w2 f2
          clear f2 X Y Z O c1 d1 d2
          go_wp2_with fail
          go_ret
          rw [HE.out.1]
          exact ⟨rfl, HK.out⟩
        · have d2 : (ofI S t != -1) = true := by simpa using ho
          have HE : Hid (binE S id t = 180 ∧ binS S id t = S) := by
            have h1 : binE S id t = 180 := by rw [hE, if_neg (fun h => ho h.2)]
            exact ⟨h1, by unfold binS; rw [h1]; rfl⟩
          rw [ht] at Y
          clear h hi e hx hth ht hE ho hr
          go_enter Try.func18, Try.ntmps18
          go_wp2_with fail
          refine X.mono ?_
          rintro e w1 ⟨rfl, rfl⟩
          go_wp2_with fail
          refine Z.mono ?_
          rintro e w1 ⟨rfl, rfl⟩
          go_wp2_with fail
          refine Y.mono ?_
          rintro e w1 ⟨rfl, rfl⟩
          go_wp2_with fail
          refine O.mono ?_
          rintro e w2 ⟨rfl, f2⟩
          have HK : Hid _ := HC.out.after f2
          clear f2
          go_wp2_with fail
          go_ret
          rw [HE.out.1, HE.out.2]
          exact ⟨rfl, HK.out⟩
      · have d1 : (x.th != -1) = true := by simpa using ht
        have HE : Hid (binE S id t = 180 ∧ binS S id t = S) := by
          have h1 : binE S id t = 180 := by rw [hE, if_neg (fun h => ht h.1)]
          exact ⟨h1, by unfold binS; rw [h1]; rfl⟩
        clear h hi e hx hth ht hE hr O
        go_enter Try.func18, Try.ntmps18
        go_wp2_with fail
        refine X.mono ?_
        rintro e w1 ⟨rfl, rfl⟩
        go_wp2_with fail
        refine Z.mono ?_
        rintro e w1 ⟨rfl, rfl⟩
        go_wp2_with fail
        refine Y.mono ?_
        rintro e w1 ⟨rfl, rfl⟩
        go_wp2_with fail
        go_ret
        rw [HE.out.1, HE.out.2]
        exact ⟨rfl, HC.out⟩

end Go.Proofs.Ythkieoedidpkaaa
