/-
  CancelAll, CancelBadged, over the translation. No statement is proved here.
-/
import Derived.Test.YtjobdfkfongjaaaIpCan
namespace Go.Proofs.Ytjobdfkfongjaaa
open Go.RowKit Go.Maps Go.WideMaps Go.Shelf

/-- A slice of numbers of the call's own. -/
def OI (B : Nat) (w : World) (v : Value) (l : List Int) : Prop := w.ownsRow B 3 1 v l.length (l.map (Value.int .i64))

theorem isI_ty {W : World} {p : Pb} {S : Ip} (h : IsI W p S) {k : Nat} {cs : Array Value} {ty : TypeId} (r : Row W k cs ty) (h1 : ty ≠ 72) (h2 : ty ≠ 89) (h3 : ty ≠ 79) : ¬ p.s S k := fun hk => by
  rcases hk with rfl | rfl | rfl | rfl | rfl | ⟨n, hn, rfl⟩ | ⟨s, o, z, hz, rfl⟩
  · exact h1 (row_ty r h.row).1
  · exact h.mt.ne r rfl
  · exact row_map r h.mq
  · exact h.ml.ne r rfl
  · exact h.mb.ne r rfl
  · exact h2 (row_ty r (h.tk n hn)).1
  · obtain ⟨cs', r'⟩ := h.zrow hz
    exact h3 (row_ty r r').1
theorem OI.chg {B : Nat} {w w' : World} {p : Pb} {S : Ip} {v : Value} {l : List Int} (h : OI B w v l) (hi : IsI w p S) (c : Fr (p.s S) w w') : OI B w' v l :=
  ownsRow_at h fun q hq hl => c.block q hl fun e => by
    obtain ⟨_, cur, r⟩ := own_rowB h hq
    exact isI_ty hi r (by decide) (by decide) (by decide) e
theorem OI.keep0 {B : Nat} {w w' : World} {v : Value} {l : List Int} (h : OI B w v l) (f : Fr none' w w') : OI B w' v l := ownsRow_at h fun q _ hl => f.block q hl (fun h => h)
theorem OI.low {B B' : Nat} {w : World} {v : Value} {l : List Int} (h : OI B w v l) (hB : B' ≤ B) : OI B' w v l := by
  obtain ⟨hl, h | ⟨g, cap, cur, hv, hb, hg, hc, hm, hs, ht⟩⟩ := h
  · exact ⟨hl, Or.inl h⟩
  · exact ⟨hl, Or.inr ⟨g, cap, cur, hv, by omega, hg, hc, hm, hs, ht⟩⟩

/-- Two such slices, one behind the other. -/
theorem app_two {B B' : Nat} {w : World} {v v2 : Value} {l m : List Int} (h : OI B w v l) (h2 : OI B' w v2 m) (hB : B ≤ w.heap.size) (hl : l.length + m.length ≤ 100000) :
    ∃ v' w', (Builtin.append_ #[37, 37] 37 #[v, v2]).run Try.prog w = .ok v' w' ∧ OI B w' v' (l ++ m) ∧ Fr (fun k => some k = v.ownBlock) w w' := by
  have hi := info_i
  cases hq : Try.prog.info? 3 with
  | none => simp [hq] at hi
  | some i =>
    rw [hq] at hi
    simp only [Option.map_some, Option.some.injEq, Prod.mk.injEq] at hi
    obtain ⟨hz0, hs, hby⟩ := hi
    obtain ⟨hl2, h2 | ⟨g, cap, cur, hv, hb, hg, hc, hm, hsz, ht⟩⟩ := h2
    · have hm0 : m = [] := by have := h2.2; simpa using this
      subst hm0
      rw [h2.1]
      refine ⟨v, w, run_append_owned_none (P := Try.prog) (w := w) B 37 37 3 i 1 Try.underlying37 hq v _ _ h, by rw [List.append_nil]; exact h, Fr.refl _ _⟩
    · rw [hv]
      obtain ⟨v', w', g1, g2, g3, _, _⟩ := run_append_own_at (P := Try.prog) (w := w) B 37 37 3 i _ 1 8 Try.underlying37 hq hz0 hs hby rfl (by omega) v l.length _ h ⟨g, 0, none⟩ m.length cap (m.map (Value.int .i64)) (by simp) (fun j u hu => by
        rw [add_lit', Nat.zero_add, Row.cell (show Row w g cur 3 from hg)]
        have : (cur.toList.take (m.length * 1))[j]? = some u := by rw [ht]; exact hu
        rw [List.getElem?_take] at this
        split at this
        · simpa using this
        · simp at this) (fun u hu => by obtain ⟨x, _, rfl⟩ := List.mem_map.1 hu; rfl) (by simp only [maxLen]; omega) (by omega) hB
      exact ⟨v', w', g1, by unfold OI; rw [List.map_append, List.length_append]; exact g2, fr_of_grown' g3⟩

section
variable {w0 w : World} {p0 p : Pb} {S0 S : Ip} {b : Nat}

theorem all_any (g : Nat) (w : World) : Calls Try.prog 69 #[pv g] w fun e w' => e = .returned (.bool true) ∧ Fr none' w w' := by
  go_enter Try.func69, Try.ntmps69
  go_wp2
  go_ret
  exact ⟨rfl, Fr.refl _ _⟩
theorem bad_any {g xb : Nat} {w : World} {u : Th} {bd : Int} (hu : ThR w g u) (hx : Row w xb #[.int .i64 bd] 3) : Calls Try.prog 71 #[pv g, pv xb] w fun e w' => e = .returned (.bool (u.sd.b == bd)) ∧ Fr none' w w' := by
  have c1 := hu.csb
  have c2 := hx.cell 0
  have HF : Hid (Fr none' w w.drew) := (Fr.refl none' w).drew
  clear hu hx
  go_enter Try.func71, Try.ntmps71
  go_wp2
  go_region
  all_goals go_wp2
  all_goals go_ret
  all_goals exact ⟨rfl, HF.out⟩
theorem enters_all : ∀ args w, (callFunc 69 args).run Try.prog w = .ok (.enter 69 args) w := enters_of Try.func69 (by kernel_rfl) rfl
theorem enters_bad : ∀ args w, (callFunc 71 args).run Try.prog w = .ok (.enter 71 args) w := enters_of Try.func71 (by kernel_rfl) rfl

theorem leaL_q3 {S : Ip} (ok : Ok S) (ep : Int) : (leaL S (S.q 2 ep)).q 3 ep = S.q 3 ep := by
  have : ∀ (l : List Int) (T : Ip), Ok T → (∀ x ∈ l, ∃ u, fnd T.L x = some u ∧ u.st = 2) → l.Nodup → (leaL T l).q 3 ep = T.q 3 ep := by
    intro l
    induction l with
    | nil => intro T _ _ _; rfl
    | cons y l ih =>
      intro T hT hl hn
      obtain ⟨u, hu, hst⟩ := hl y List.mem_cons_self
      rw [List.nodup_cons] at hn
      show (leaL (leaS T y) l).q 3 ep = _
      rw [ih (leaS T y) (ok_lea hT hu) (fun x hx => ?_) hn.2, leaS_eq hu]
      · show uq T.q u.st u.on (outT y) 3 ep = _
        unfold uq
        rw [if_neg (by rw [hst]; omega)]
      · obtain ⟨v, hv, hs⟩ := hl x (List.mem_cons_of_mem _ hx)
        have e := leaL_other [y] (S := T) (x := x) (by simp; exact fun e => hn.1 (e ▸ hx))
        exact ⟨v, by rw [show leaS T y = leaL T [y] from rfl, e]; exact hv, hs⟩
  exact this _ S ok (fun x hx => by
    obtain ⟨u, hu, h1, _⟩ := (ok.mem 2 ep x).1 hx
    exact ⟨u, hu, h1⟩) (ok.nd 2 ep)
/-- All of a queue. -/
theorem In.allOf (h : In w0 p0 S0 b w p S) {s o : Int} (hs : I64 s) (ho : I64 o) (hs0 : s ≠ 0) : Calls Try.prog 70 #[pv b, plV s o, .func (.func 69) #[] #[]] w fun e w' => ∃ v p', e = .returned v ∧ In w0 p0 S0 b w' p' (leaL S (S.q s o)) ∧ Fr (p.s S) w w' ∧ OI w.heap.size w' v (S.q s o) := by
  have := those_any w p S h.chg.is h.ok s o hs ho hs0 (fun _ => true) _ #[] enters_all (fun W _ _ _ g _ _ _ => all_any g W)
  rw [h.eb] at this
  refine this.mono ?_
  rintro e w' ⟨v, p', rfl, hin, _, own⟩
  have hf : (S.q s o).filter (fun _ => true) = S.q s o := List.filter_eq_self.2 (fun _ _ => rfl)
  rw [hf] at hin own
  exact ⟨v, p', rfl, h.go hin.chg hin.ok, hin.chg.fr, own⟩
/-- Those of a badge. -/
theorem In.badOf (h : In w0 p0 S0 b w p S) {s o bd : Int} (hs : I64 s) (ho : I64 o) (hs0 : s ≠ 0) {xb : Nat} (rx : Row w xb #[.int .i64 bd] 3) : Calls Try.prog 70 #[pv b, plV s o, .func (.func 71) #[] #[pv xb]] w fun e w' => ∃ v p', e = .returned v ∧ In w0 p0 S0 b w' p' (leaL S ((S.q s o).filter (badB S bd))) ∧ Fr (p.s S) w w' ∧ OI w.heap.size w' v ((S.q s o).filter (badB S bd)) := by
  have := those_any w p S h.chg.is h.ok s o hs ho hs0 (badB S bd) _ #[pv xb] enters_bad (fun W p' S' x g hin k e => by
    have := bad_any (bd := bd) (hin.th k) (hin.row rx (isI_ty h.chg.is rx (by decide) (by decide) (by decide)))
    rw [e] at this
    exact this)
  rw [h.eb] at this
  refine this.mono ?_
  rintro e w' ⟨v, p', rfl, hin, _, own⟩
  exact ⟨v, p', rfl, h.go hin.chg hin.ok, hin.chg.fr, own⟩

attribute [local go_sem ↓ high] builtin_app in
theorem In.cancelAll (h : In w0 p0 S0 b w p S) {ep : Int} (he : I64 ep) : Calls Try.prog 29 #[pv b, .int .i64 ep] w fun e w' => ∃ v p', e = .returned v ∧ In w0 p0 S0 b w' p' (calS S ep) ∧ OI w.heap.size w' v (calL S ep) := by
  have hlen : (S.q 2 ep).length + ((leaL S (S.q 2 ep)).q 3 ep).length ≤ 100000 := by
    have := h.ok.len 2 ep
    have := (ok_leaL (S.q 2 ep) h.ok h.ok.all).len 3 ep
    omega
  have hq3 : (leaL S (S.q 2 ep)).q 3 ep = S.q 3 ep := leaL_q3 h.ok ep
  have i2 : I64 2 := i64s (by omega) (by omega)
  have i3 : I64 3 := i64s (by omega) (by omega)
  have HA : Hid (∀ wa, Fr none' w wa → Calls Try.prog 70 #[pv b, plV 2 ep, .func (.func 69) #[] #[]] wa fun e wb => ∃ v, e = .returned v ∧ Hid (∀ wc, Fr none' wb wc → Calls Try.prog 70 #[pv b, plV 3 ep, .func (.func 69) #[] #[]] wc fun e wd => ∃ v2, e = .returned v2 ∧ ∃ v' we, (Builtin.append_ #[37, 37] 37 #[v, v2]).run Try.prog wd = .ok v' we ∧ Hid (∃ p', In w0 p0 S0 b we p' (calS S ep) ∧ OI w.heap.size we v' (calL S ep)))) := fun wa fa => by
    refine ((h.keep0 fa).allOf i2 he (by omega)).mono ?_
    rintro e wb ⟨v, p1, rfl, h1, f1, o1⟩
    refine ⟨v, rfl, fun wc fc => ?_⟩
    have h2 := h1.keep0 fc
    refine (h2.allOf i3 he (by omega)).mono ?_
    rintro e wd ⟨v2, p2, rfl, h3, f3, o2⟩
    rw [hq3] at h3 o2
    have o1' : OI wa.heap.size wd v (S.q 2 ep) := (o1.keep0 fc).chg h2.chg.is f3
    have hsz : wa.heap.size ≤ wd.heap.size := Nat.le_trans f1.size (Nat.le_trans fc.size f3.size)
    obtain ⟨v', we, g1, g2, g3⟩ := app_two o1' o2 hsz (by rw [hq3] at hlen; exact hlen)
    refine ⟨v2, rfl, v', we, g1, p2, ?_, g2.low fa.size⟩
    exact ⟨⟨h3.chg.is.keep g3 (fun k hk e => by
      obtain ⟨_, cur, r⟩ := own_rowB o1' e
      exact isI_ty h3.chg.is r (by decide) (by decide) (by decide) hk), ⟨g3.os.trans h3.chg.fr.os, g3.tape.trans h3.chg.fr.tape, g3.output.trans h3.chg.fr.output, Nat.le_trans h3.chg.fr.size g3.size, fun i hi hn => (g3.block i (Nat.lt_of_lt_of_le hi h3.chg.fr.size) (fun e => by
        have := (own_rowB o1' e).1
        have := fa.size
        have := h.chg.fr.size
        omega)).trans (h3.chg.fr.block i hi hn)⟩, h3.chg.new, h3.chg.eb, h3.chg.eB, h3.chg.kp⟩, h3.ok, h3.eb⟩
  clear h hq3 hlen he i2 i3
  go_enter Try.func29, Try.ntmps29
  go_wp2_with (first | (go_at_call 51; refine (senders_any _ _).mono ?_; rintro e wa ⟨rfl, fa⟩; have HB : Hid _ := HA.out wa fa; clear HA) | (go_at_call 52; refine (receivers_any _ _).mono ?_; rintro e wc ⟨rfl, fc⟩; have HD : Hid _ := HC.out wc fc; clear HC) | (go_at_call 70; refine (Calls.mono HB.out ?_); rintro e wb ⟨v, rfl, HC⟩; clear HB) | (go_at_call 70; refine (Calls.mono HD.out ?_); rintro e wd ⟨v2, rfl, v', we, hrun, HE⟩; have hrun' : (App #[37, 37] 37 #[v, v2]).run Try.prog wd = .ok v' we := hrun; clear hrun HD))
  go_ret
  obtain ⟨p', h1, h2⟩ := HE.out
  exact ⟨_, p', rfl, h1, h2⟩

theorem In.cancelBadged (h : In w0 p0 S0 b w p S) {ep bd : Int} (he : I64 ep) : Calls Try.prog 30 #[pv b, .int .i64 ep, .int .i64 bd] w fun e w' => ∃ v p', e = .returned v ∧ In w0 p0 S0 b w' p' (cbaS S ep bd) ∧ OI w.heap.size w' v (cbaL S ep bd) := by
  have i2 : I64 2 := i64s (by omega) (by omega)
  have f0 := (Fr.refl none' w).alloc (.cells #[.int .i64 bd] 3)
  have r0 := row_alloc w #[.int .i64 bd] 3
  have HA : Hid (∀ wa, Fr none' (w.alloc (.cells #[.int .i64 bd] 3)) wa → Calls Try.prog 70 #[pv b, plV 2 ep, .func (.func 71) #[] #[pv w.heap.size]] wa fun e wb => ∃ v p', e = .returned v ∧ In w0 p0 S0 b wb p' (cbaS S ep bd) ∧ OI w.heap.size wb v (cbaL S ep bd)) := fun wa fa => by
    refine (((h.keep0 f0).keep0 fa).badOf i2 he (by omega) (r0.keep fa (fun h => h))).mono ?_
    rintro e wb ⟨v, p1, rfl, h1, f1, o1⟩
    exact ⟨v, p1, rfl, h1, o1.low (Nat.le_trans f0.size fa.size)⟩
  clear h he i2 f0 r0
  go_enter Try.func30, Try.ntmps30
  go_wp2_with (first | (go_at_call 51; refine (senders_any _ _).mono ?_; rintro e wa ⟨rfl, fa⟩; have HB : Hid _ := HA.out wa fa; clear HA) | (go_at_call 70; refine (Calls.mono HB.out ?_); rintro e wb ⟨v, p', rfl, HE⟩; have HE' : Hid _ := HE; clear HB HE))
  go_ret
  exact ⟨_, p', rfl, HE'.out⟩

end

end Go.Proofs.Ytjobdfkfongjaaa
