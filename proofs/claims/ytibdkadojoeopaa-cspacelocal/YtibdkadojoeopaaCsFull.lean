/-
  The contract of package cspace's Full over the translation. No statement is proved here.
-/
import Derived.Test.YtibdkadojoeopaaCsOwn
namespace Go.Proofs.Ytibdkadojoeopaa
open Go.RowKit Go.Maps Go.WideMaps

theorem ranges_keep {S : Nat → Prop} {w w' : World} {m r n ct : Nat} {D : DataW Unit} {left : Lit → Bool} (h : w.ranges Try.prog 3 gEl m r n D left ct) (f : Fr S w w') (h1 : ¬ S m) (h2 : ¬ S r) : w'.ranges Try.prog 3 gEl m r n D left ct := by
  obtain ⟨es, clock, since, seen, c0, hb, F, hs, hD, hr, rest⟩ := h
  have lm : m < w.heap.size := by
    rcases Nat.lt_or_ge m w.heap.size with h' | h'
    · exact h'
    · rw [Array.getElem?_eq_none h'] at hb; cases hb
  have lr : r < w.heap.size := by
    rcases Nat.lt_or_ge r w.heap.size with h' | h'
    · exact h'
    · rw [Array.getElem?_eq_none h'] at hr; cases hr
  exact ⟨es, clock, since, seen, c0, (f.block m lm h1).trans hb, F, hs, hD, (f.block r lr h2).trans hr, rest⟩

theorem same_key (j k : Int) : (Lit.int .i64 j).sameKey (.int .i64 k) = decide (j = k) := by
  by_cases e : j = k
  · subst e
    rw [decide_eq_true rfl]
    exact WideAt.sameKey_self trivial
  · rw [decide_eq_false e]
    exact Maps.sameKey_ne (lit_ne e)

def mkG (c : Option (Nat × Nat)) : Value := match c with
  | none => .agg #[.int .i64 0, .slice none 0 0]
  | some (x, g) => nodeV x g

theorem next_is {D : DataW Unit} {n : Nat} {f : Int → Option (Nat × Nat)} (M : Mg D n f) {kl : Lit} {c : Option (Nat × Nat)} {y : DataW Unit × List MemPlace} (hv : gEl (mkG c) = some y) (hat : ∀ zd, D.atKey kl zd = y.1) : ∃ (k : Int) (x g : Nat), c = some (x, g) ∧ kl = .int .i64 k ∧ f k = some (x, g) := by
  obtain ⟨k, rfl⟩ := M.key kl (has_true_of_atKey hat)
  have hs := M.has k
  rw [has_true_of_atKey hat] at hs
  cases hf : f k with
  | none => rw [hf] at hs; cases hs
  | some q =>
    obtain ⟨x, g⟩ := q
    have e := M.at' k x g hf gd0
    rw [hat] at e
    cases c with
    | none =>
      have hv' : gEl (.agg #[.int .i64 0, .slice none 0 0]) = some y := hv
      rw [gEl_zero] at hv'
      cases hv'
      exact absurd e.symm gd_ne
    | some c =>
      obtain ⟨x', g'⟩ := c
      have hv' : gEl (nodeV x' g') = some y := hv
      rw [gEl_mk] at hv'
      cases hv'
      obtain ⟨e1, rfl⟩ := gd_inj e
      obtain rfl : x' = x := by omega
      exact ⟨k, x', g', rfl, rfl, hf⟩

theorem inv_key {key : Value} {kl : Lit} (h : keyOf Try.prog 3 key = some kl) : ∃ x : Int, key = .int .i64 x := by
  obtain ⟨x, rfl, _⟩ := Maps.keyOf_int_inv Try.underlying3 h
  exact ⟨x, rfl⟩
theorem inv_el {v : Value} {y : DataW Unit × List MemPlace} (h : gEl v = some y) : ∃ c : Option (Nat × Nat), v = mkG c := by
  rcases gEl_inv h with ⟨x, g, rfl, _⟩ | ⟨rfl, _⟩
  · exact ⟨some (x, g), rfl⟩
  · exact ⟨none, rfl⟩

/-- The step of a range over the map of nodes. -/
theorem wpList_next_n {w : World} {ops : Array Oper} {rest : List Oper} {o : Oper} {a : Act} {Q : Exit → Act → World → Prop} (hg : o.guard = none) (it : Operand) (hop : o.op = Op.next it false) (b r n : Nat) (D : DataW Unit) (f : Int → Option (Nat × Nat)) (M : Mg D n f) (left : Lit → Bool) (ct : Nat)
    (hit : a.eval it = .pointer (some ⟨r, 0, none⟩)) (h : w.ranges Try.prog 3 gEl b r n D left ct)
    (hDone : (∀ kl, left kl = false) → wpList Try.prog ops Q rest (a.put o.dst (.tuple #[.bool false])) w)
    (hMore : ∀ (k : Int) (x g N : Nat) (w' : World) (ct' : Nat), Hid (N = 2 ^ x) → f k = some (x, g) → left (.int .i64 k) = true → w'.ranges Try.prog 3 gEl b r n D (fun z => left z && !z.sameKey (.int .i64 k)) ct' → ct' < ct → w.grownBy w' (some r) →
      (Instr.entry (.pointer (some ⟨r, 0, none⟩))).run Try.prog w' = .ok (.tuple #[.int .i64 k, .agg #[.int .i64 (x : Int), .slice (some ⟨g, 0, none⟩) N N]]) w' → wpList Try.prog ops Q rest (a.put o.dst (.tuple #[.bool true, .int .i64 k, .agg #[.int .i64 (x : Int), .slice (some ⟨g, 0, none⟩) N N]])) w') :
    wpList Try.prog ops Q (o :: rest) a w :=
  wpList_next_ranges w hg it hop 3 law3 gEl (Value.int .i64) mkG (fun _ _ hk => inv_key hk) (fun _ _ hv => inv_el hv) b r n D left ct hit h (fun _ hl => hDone hl)
    (fun x c kl y w' ct' hkey hlk hv hat hrg hlt hgr hsz hen => by
      obtain ⟨k, x', g', rfl, rfl, hf⟩ := next_is M hv hat
      obtain ⟨x'', ex, e, _⟩ := Maps.keyOf_int_inv Try.underlying3 hkey
      cases ex
      cases e
      exact hMore _ x' g' _ w' ct' rfl hf hlk hrg hlt hgr hen)

/-- Where going through the nodes stands. -/
structure FulI (w wr : World) (p : Pb) (L : List Nd) (D : DataW Unit) (left : Lit → Bool) (ct : Nat) (v : Value) (acc : List Rf) : Prop where
  rg : wr.ranges Try.prog 3 gEl p.m w.heap.size L.length D left ct
  ow : OwnK 32 2 wr (w.heap.size + 1) v acc.length (flatV acc)
  is : IsP wr p L
  fr : Fr none' w wr
  sz : w.heap.size + 1 ≤ wr.heap.size

theorem FulI.keep0 {w wr w' : World} {p : Pb} {L : List Nd} {D : DataW Unit} {left : Lit → Bool} {ct : Nat} {v : Value} {acc : List Rf} (h : FulI w wr p L D left ct v acc) (f : Fr none' wr w') : FulI w w' p L D left ct v acc :=
  ⟨ranges_keep h.rg f (fun h => h) (fun h => h), h.ow.keep0 f, h.is.keep0 f, h.fr.trans f, Nat.le_trans h.sz f.size⟩

/-- One name more. -/
theorem FulI.more {w wr : World} {p : Pb} {L : List Nd} {D : DataW Unit} {left : Lit → Bool} {ct : Nat} {v : Value} {acc : List Rf} (h : FulI w wr p L D left ct v acc) (hB : ∀ q, p.s L q → q < w.heap.size) (hn : acc.length ≤ 100000) (x : Rf) (g : Nat) (r : Row wr g #[.int .i64 x.n, .int .i64 x.i] 32) :
    ∃ v' w', (Builtin.append_ #[38, 38] 38 #[v, .slice (some ⟨g, 0, none⟩) 1 1]).run Try.prog wr = .ok v' w' ∧ FulI w w' p L D left ct v' (acc ++ [x]) := by
  obtain ⟨v', w', h1, f, o⟩ := append_ref wr (w.heap.size + 1) g v acc x h.sz h.ow (by omega) r
  have hi : ∀ q, some q = v.ownBlock → w.heap.size + 1 ≤ q := fun q hq => h.ow.high q hq
  refine ⟨v', w', h1, ranges_keep h.rg f (fun e => by have := hi _ e; have := hB _ (Or.inr (Or.inl rfl)); omega) (fun e => by have := hi _ e; omega), o, h.is.keep f (fun k hk e => by have := hi k e; have := hB k hk; omega), ?_, Nat.le_trans h.sz f.size⟩
  exact ⟨f.os.trans h.fr.os, f.tape.trans h.fr.tape, f.output.trans h.fr.output, Nat.le_trans h.fr.size f.size, fun i hi' hn' => (f.block i (Nat.lt_of_lt_of_le hi' h.fr.size) (fun e => by have := hi i e; omega)).trans (h.fr.block i hi' hn')⟩

set_option maxRecDepth 100000 in
set_option maxHeartbeats 4000000 in
theorem full_any (w : World) (p : Pb) (L : List Nd) (h : IsP w p L) :
    Calls Try.prog 12 #[.pointer (some ⟨p.b, 0, none⟩)] w fun e w' => ∃ v, e = .returned v ∧ RfS w' w.heap.size v (fulL L) ∧ Fr none' w w' := by
  have HB0 : Hid (∀ q, p.s L q → q < w.heap.size) := fun q hq => h.lt q hq
  have c0 := h.cell
  obtain ⟨D, hown, M⟩ := h.map
  have HM : Hid (Mg D L.length (mapF p L)) := M
  have HH : Hid (IsP w p L) := h
  have HGL : Hid (GoodL L) := h.good
  clear M h
  go_enter Try.func12, Try.ntmps12
  go_wp2_with (first | (at_range; refine wpList_range_own _ rfl _ 62 rfl 3 69 law3 Try.underlying62 _ p.m L.length D rfl hown ?_; intro w0 hrg0 hg0 hs0))
  go_frame
  have f0 := fr_grown0 hg0
  have HI : Hid (FulI w w0 p L D (Maps.has D) (Maps.size D) (.slice none 0 0) []) := ⟨hrg0, ownk_nil _ _ _ _, HH.out.keep0 f0, f0, by omega⟩
  clear hrg0 hg0 hs0 f0 hown c0 HH
  go_loopw [3] (fun v wr => ∃ (left : Lit → Bool) (ct : Nat) (acc : List Rf), Hid (FulI w wr p L D left ct v acc ∧ acc.Perm (fulL (L.filter fun m => !left (.int .i64 m.id))))) (fun _ wr => wr.rangeLeft p.m w.heap.size)
  case atStart =>
    refine ⟨_, _, [], HI.out, ?_⟩
    rw [ful_start (lf := fun j => Maps.has D (.int .i64 (j : Int))) (fun n hn => by
      show Maps.has D (.int .i64 (n.id : Int)) = true
      rw [HM.out.has]
      unfold mapF
      rw [fnd_of_mem HGL.out.srt hn]
      rfl)]
  case round =>
    clear HI
    obtain ⟨left, ct, acc, hF⟩ := hrel
    have hrg := hF.out.1.rg
    go_wp2_with (first | (at_next; refine wpList_next_n rfl _ rfl p.m w.heap.size L.length D (mapF p L) HM.out left ct rfl hrg (fun hl => ?_) (fun k x g N w1 ct1 hN hf hlk hrg1 hlt hgr hen1 => ?_)))
    · obtain ⟨hI, hP⟩ := hF.out
      rw [ful_end (lf := fun j => left (.int .i64 (j : Int))) (fun j => hl _)] at hP
      clear hF hrg hl
      have hO := hI.ow
      have fk := hI.fr
      have HP : Hid (acc.Perm (fulL L)) := hP
      have hl64 : acc.length ≤ 16384 := by rw [hP.length_eq]; exact len_full HGL.out
      clear hI hP
      by_cases hn : acc.length = 0
      · obtain rfl := hO.2 hn
        have HE : Hid (fulL L = []) := by
          show _ = _
          have := HP.out
          rw [List.length_eq_zero_iff.mp hn] at this
          exact this.symm.eq_nil
        clear hO hn hl64
        refine (sort_none _ _ _ _).mono ?_
        rintro e w1 ⟨rfl, rfl⟩
        go_wp2_with fail
        go_ret
        exact ⟨_, rfl, Or.inl ⟨HE.out, rfl⟩, fk⟩
      · obtain ⟨g, cap, cur, rfl, hb, hr, hc, hm, hcs, hx⟩ := hO.row hn
        have hd : ∀ i, i < acc.toArray.size → RecAt cur i acc.toArray[i]! := fun i hi => rec_of hx i _ (by
          simp only [List.size_toArray] at hi
          simp [hi])
        have hs := sort_any (cap := cap) hr acc.toArray hd (by simp only [List.size_toArray]; omega) (by simpa using hl64)
        simp only [List.size_toArray] at hs
        have HC : Hid (acc.length ≤ cap ∧ cap ≤ maxLen) := ⟨hc, hm⟩
        clear hO hn hl64 hr hc hm hcs hx hd
        refine hs.mono ?_
        rintro e w1 ⟨rfl, d', cs', p1, p2, p3, f1, r1, _, q1⟩
        clear hs
        have e1 : d'.toList = fulL L := sorted_eqR (p2.trans HP.out) p3 (srt_fulL HGL.out.srt)
        have e2 : (fulL L).length = acc.length := by rw [← e1]; simpa using p1
        have HR : Hid (RfS w1 w.heap.size (.slice (some ⟨g, 0, none⟩) (acc.length : Nat) cap) (fulL L)) := Or.inr ⟨g, cap, cs', by rw [e2], by omega, by rw [e2]; exact HC.out.1, HC.out.2, r1, fun i x hi => by
          rw [← e1] at hi
          have hlt : i < d'.size := by
            rcases Nat.lt_or_ge i d'.size with h' | h'
            · exact h'
            · rw [List.getElem?_eq_none (by simpa using h')] at hi; cases hi
          have := q1 i hlt
          rwa [show d'[i]! = x from by
            rw [List.getElem?_eq_getElem (by simpa using hlt)] at hi
            simp only [Option.some.injEq] at hi
            rw [← hi]
            simp [hlt]] at this⟩
        have F1 := fk.newer f1 (by omega)
        clear e1 e2 p1 p2 p3 q1 r1 f1 fk HP HC
        go_wp2_with fail
        go_ret
        exact ⟨_, rfl, HR.out, F1⟩
    · obtain ⟨n, hfn, hx, hg⟩ : ∃ n, fnd L k = some n ∧ n.rx = x ∧ p.B n.id = g := by
        unfold mapF at hf
        cases hq : fnd L k with
        | none => rw [hq] at hf; cases hf
        | some n => rw [hq] at hf; cases hf; exact ⟨n, rfl, rfl, rfl⟩
      obtain ⟨hnm, hid⟩ := fnd_mem hfn
      have gn := HGL.out.all n hnm
      have hN16 : N ≤ 16 := by rw [hN.out, ← hx]; exact (pow4 gn.lo gn.hi).2
      have HN : Hid (N = 2 ^ n.rx) := by rw [hx]; exact hN
      have hr0 : ∀ q, p.s L q → ¬ q = w.heap.size := fun q hq e => by have := HB0.out q hq; omega
      have fr1 := fr_map hgr
      have hI0 := hF.out.1
      have HI : Hid (FulI w (w1.alloc (.cells #[.int .i64 (x : Int), .slice (some ⟨g, 0, none⟩) N N] 69)) p L D (fun z => left z && !z.sameKey (.int .i64 k)) ct1 u3 acc) := by
        have b1 : FulI w w1 p L D (fun z => left z && !z.sameKey (.int .i64 k)) ct1 u3 acc :=
          ⟨hrg1, hI0.ow.at (fun q hq hl => fr1.block q hl (fun e => by have := hI0.ow.high q hq; have e' : q = w.heap.size := e; omega)), hI0.is.keep fr1 (fun q hq e => hr0 q hq e), hI0.fr.newer fr1 (Nat.le_refl _), Nat.le_trans hI0.sz fr1.size⟩
        exact b1.keep0 ((Fr.refl none' w1).alloc _)
      have HL : Hid (acc.length ≤ 16384) := len_acc HGL.out hF.out.2
      have HE : Hid ((acc ++ fulR n N).Perm (fulL (L.filter fun m => !(left (.int .i64 m.id) && !(Lit.int .i64 (m.id : Int)).sameKey (.int .i64 k))))) := by
        rw [HN.out]
        refine ful_step HGL.out (lf := fun j => left (.int .i64 (j : Int))) (lf' := fun j => left (.int .i64 (j : Int)) && !(Lit.int .i64 (j : Int)).sameKey (.int .i64 k)) hnm (by rw [← hid] at hlk; exact hlk) (fun j => ?_) hF.out.2
        rw [same_key, ← hid]
        have : decide ((j : Int) = (n.id : Int)) = decide (j = n.id) := by
          by_cases e : j = n.id
          · rw [e]; simp
          · rw [decide_eq_false e, decide_eq_false (by omega)]
        rw [this]
      have HM1 : Hid (ct1 < wr.rangeLeft p.m w.heap.size) := by
        show _ < _
        rw [hI0.rg.left_eq]; exact hlt
      obtain rfl : k = (n.id : Int) := hid.symm
      clear hF hrg hI0 hrg1 hlt hgr hen1 fr1 hr0 gn hN hf hlk hfn hid
      generalize (w1.alloc (.cells #[.int .i64 (x : Int), .slice (some ⟨g, 0, none⟩) N N] 69)) = v1 at *
      go_loopw [3, 21] (fun v i wr => ∃ j : Nat, j ≤ N ∧ i = .int .i64 (j : Int) ∧ Hid (FulI w wr p L D (fun z => left z && !z.sameKey (.int .i64 (n.id : Int))) ct1 v (acc ++ fulR n j))) (fun _ i _ => N - (intOf i).toNat)
      case atStart => exact ⟨0, by omega, rfl, by show FulI _ _ _ _ _ _ _ _ _; simpa [fulR] using HI.out⟩
      case round =>
        clear HI
        obtain ⟨j, hj, rfl, hI⟩ := hrel
        by_cases hjN : j < N
        · have hsl := hI.out.is.sl n hnm
          rw [← HN.out, hg] at hsl
          obtain ⟨d0, d1, d2, d3, d4, d5, d6, d7⟩ := hsl.cells j hjN
          have HR : Hid (fulR n (j + 1) = fulR n j ++ if (n.sl j).k != 0 then [⟨n.id, j⟩] else []) := rfl
          have HJ : Hid ((acc ++ fulR n j).length ≤ 100000) := by
            have h1 := HL.out
            have h2 := len_fulR n j
            show _ ≤ _
            rw [List.length_append]
            omega
          have hc := fun w => isfull_any (n.sl j) w
          generalize n.sl j = c at *
          obtain ⟨k', o', r', b', x', g', n', d'⟩ := c
          dsimp only at d0 d1 d2 d3 d4 d5 d6 d7 HR
          replace hc : ∀ w, Calls Try.prog 34 #[.agg #[.int .i64 k', .int .i64 o', .int .i64 r', .int .i64 b', .int .i64 x', .int .i64 g', .int .i64 n', .bool d']] w fun e w' => e = .returned (.bool (k' != 0)) ∧ Fr none' w w' := hc
          cases hb : (k' != 0) with
          | false =>
            rw [hb] at hc HR
            have HQ : Hid (fulR n (j + 1) = fulR n j) := by show _ = _; rw [HR.out]; simp
            go_wp2_with fail
            refine (hc _).mono ?_
            rintro e w2 ⟨rfl, f2⟩
            have HI2 : Hid (FulI w w2 p L D (fun z => left z && !z.sameKey (.int .i64 (n.id : Int))) ct1 u3 (acc ++ fulR n (j + 1))) := by
              show FulI _ _ _ _ _ _ _ _ _
              rw [HQ.out]
              exact (hI.out.keep0 ((Fr.refl none' _).alloc _)).keep0 f2
            clear hI f2
            go_wp2_with fail
            go_roundw
            case rel => exact ⟨j + 1, by omega, by go_num, HI2.out⟩
            case measure => simp [intOf]; omega
          | true =>
            rw [hb] at hc HR
            have HQ : Hid (fulR n (j + 1) = fulR n j ++ [⟨n.id, j⟩]) := by show _ = _; rw [HR.out]; simp
            go_wp2_with fail
            refine (hc _).mono ?_
            rintro e w2 ⟨rfl, f2⟩
            have I2 := ((hI.out.keep0 ((Fr.refl none' _).alloc _)).keep0 f2).keep0 ((Fr.refl none' w2).alloc (.cells #[.int .i64 (n.id : Int), .int .i64 (j : Int)] 32))
            obtain ⟨v', w3, hrun, I3⟩ := I2.more HB0.out HJ.out ⟨n.id, j⟩ w2.heap.size (row_alloc w2 _ _)
            have HI3 : Hid (FulI w w3 p L D (fun z => left z && !z.sameKey (.int .i64 (n.id : Int))) ct1 v' (acc ++ fulR n (j + 1))) := by
              show FulI _ _ _ _ _ _ _ _ _
              rw [HQ.out, ← List.append_assoc]
              exact I3
            clear hI f2 I2 I3
            go_wp2_with (first | (at_builtin; refine wpList_append_runK rfl _ _ 38 rfl _ _ rfl rfl _ _ hrun ?_))
            go_roundw
            case rel => exact ⟨j + 1, by omega, by go_num, HI3.out⟩
            case measure => simp [intOf]; omega
        · obtain rfl : j = N := by omega
          go_wp2_with fail
          go_roundw
          case rel => exact ⟨_, _, _, hI.out, HE.out⟩
          case measure => rw [hI.out.rg.left_eq]; exact HM1.out

end Go.Proofs.Ytibdkadojoeopaa
