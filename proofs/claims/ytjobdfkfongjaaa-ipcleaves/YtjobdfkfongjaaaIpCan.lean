/-
  cancelThose, over the translation. No statement is proved here.
-/
import Derived.Test.YtjobdfkfongjaaaIpCanA
namespace Go.Proofs.Ytjobdfkfongjaaa
open Go.RowKit Go.Maps Go.WideMaps Go.Shelf

section
variable {w : World} {p : Pb} {S : Ip} {s o : Int} {G : Int → Bool} {gv : Value} {gf : Nat} {lb : Array Value}

theorem setCell_own {W : World} {B n k : Nat} {e : TypeId} {v : Value} {xs : List Value} (h : W.ownsRow B e k v n xs) {q : Nat} {cs : Array Value} {ty : TypeId} (r : Row W q cs ty) (ht : ty ≠ e) (x : Value) : (W.setCell ⟨q, 0, none⟩ x).ownsRow B e k v n xs :=
  ownsRow_at h fun j hj hl => (fr_set W q 0 x (Fr.refl _ W)).block j hl (fun e' => by
    have e' : j = q := e'
    subst e'
    obtain ⟨_, cur, r'⟩ := own_rowB h hj
    exact ht (row_ty r r').1)
theorem fr_append {w4 : World} {v : Value} {n : Nat} {xs : List Value} {B : Nat} {W2 : World} (f : Fr (fun k => some k = v.ownBlock) W2 w4) (h : W2.ownsRow B 3 1 v n xs) {k : Nat} {cs : Array Value} {ty : TypeId} (r : Row W2 k cs ty) (ht : ty ≠ 3) : Row w4 k cs ty :=
  r.keep f fun e => by
    obtain ⟨_, cur, r'⟩ := own_rowB h e
    exact ht (row_ty r r').1

/-- A round of 'cancelThose', whatever it comes to. -/
theorem cx_round (h : IsI w p S) (ok : Ok S) (hs0 : s ≠ 0) (hG : ∀ W p' S' x g, In w p S p.b W p' S' → Tg p' S' x g → (thrT S' x).sd = (thrT S x).sd → Calls Try.prog gf (#[pv g] ++ lb) W fun e W' => e = .returned (.bool (G x)) ∧ Fr none' W W')
    {k : Nat} {W : World} (hc : Cx w p S s o G gv k W) (hk : k < (S.q s o).length) :
    ∃ g x, g = p.B ((S.q s o).getD k 0) ∧ W.cell? ⟨w.heap.size + 1 + 1, 0, none⟩ = some gv ∧ Calls Try.prog gf (#[pv g] ++ lb) W (fun e W1 => e = .returned (.bool (G x)) ∧ Fr none' W W1) ∧
      (G x = false → ∀ W1, Fr none' W W1 → Cx w p S s o G gv (k + 1) W1 ∧ KeepsFrom (w.heap.size + 6) W W1) ∧
      (G x = true → ∀ W1, Fr none' W W1 → W1.cell? ⟨w.heap.size, 0, none⟩ = some (pv p.b) ∧ Calls Try.prog 55 #[pv p.b, pv g] W1 fun e W2 => ∃ v0, e = .returned v0 ∧ ∃ a0 n0 c0 a n c w4, W2.cell? ⟨w.heap.size + 1 + 1 + 1, 0, none⟩ = some (.slice a0 n0 c0) ∧ w.heap.size + 1 + 1 + 1 < W2.heap.size ∧ W2.cell? ⟨g, 0, none⟩ = some (.int .i64 x) ∧
        (Builtin.append_ #[37, 37] 37 #[.slice a0 n0 c0, .slice (some ⟨W2.heap.size, 0, none⟩) 1 1]).run Try.prog (W2.drew.alloc (.cells #[.int .i64 x] 3)) = .ok (.slice a n c) w4 ∧ (∃ u, w4.cell? ⟨w.heap.size + 1 + 1 + 1, 0, none⟩ = some u) ∧ w4.frozen? ⟨w.heap.size + 1 + 1 + 1, 0, none⟩ = false ∧
        Cx w p S s o G gv (k + 1) (w4.setCell ⟨w.heap.size + 1 + 1 + 1, 0, none⟩ (.slice a n c)) ∧ KeepsFrom (w.heap.size + 6) W (w4.setCell ⟨w.heap.size + 1 + 1 + 1, 0, none⟩ (.slice a n c))) := by
  obtain ⟨p', v, hin, sm, r3, own, _⟩ := hc.ex
  obtain ⟨xa, xn, xc, rfl⟩ : ∃ a n c, v = .slice a n c := by
    rcases own.2 with h' | ⟨g, cap, _, h', _⟩
    · exact ⟨_, _, _, h'.1⟩
    · exact ⟨_, _, _, h'⟩
  have hx : (S.q s o).getD k 0 = (S.q s o)[k] := by simp [List.getD_eq_getElem?_getD, hk]
  have hmem : (S.q s o)[k] ∈ S.q s o := List.getElem_mem hk
  obtain ⟨u, hu, hst, hon, _⟩ := (ok.mem s o _).1 hmem
  have hnb := not_before (ok.nd s o) hk G
  have hu' : fnd (leaL S (((S.q s o).take k).filter G)).L (S.q s o)[k] = some u := by rw [leaL_other _ hnb]; exact hu
  have eB : p'.B (S.q s o)[k] = p.B (S.q s o)[k] := hin.chg.eB _ (by rw [hu]; rfl)
  have tg : Tg p' (leaL S (((S.q s o).take k).filter G)) (S.q s o)[k] (p.B (S.q s o)[k]) := ⟨by rw [hu']; rfl, eB⟩
  have hsd : (thrT (leaL S (((S.q s o).take k).filter G)) (S.q s o)[k]).sd = (thrT S (S.q s o)[k]).sd := by rw [thrT_of hu', thrT_of hu]
  have hst' : (thrT (leaL S (((S.q s o).take k).filter G)) (S.q s o)[k]).st ≠ 0 := by rw [thrT_of hu', hst]; exact hs0
  have htf := take_filter hk G
  refine ⟨_, (S.q s o)[k], by rw [hx], hc.r2.cell 0, hG W p' _ _ _ hin tg hsd, fun hf W1 f1 => ?_, fun ht W1 f1 => ?_⟩
  · rw [hf] at htf
    simp only [Bool.false_eq_true, if_false, List.append_nil] at htf
    refine ⟨⟨⟨p', .slice xa xn xc, ?_, sm, r3.keep f1 (fun h => h), ?_, fun e => by omega⟩, hc.r0.keep f1 (fun h => h), hc.r2.keep f1 (fun h => h), hc.r4.keep f1 (fun h => h), hc.r5.keep f1 (fun h => h), hc.old.keep (fun z _ hl => f1.block _ hl (fun h => h)) (fun _ _ => rfl)⟩, keepsC f1 (fun _ h => h.elim)⟩
    · rw [htf]; exact hin.keep0 f1
    · rw [htf]; exact ownsRow_at own (fun q _ hl => f1.block q hl (fun h => h))
  · rw [ht] at htf
    simp only [if_true] at htf
    generalize hl1 : ((S.q s o).take k).filter G = l1 at *
    have hin1 := hin.keep0 f1
    refine ⟨(hc.r0.keep f1 (fun h => h)).cell 0, ?_⟩
    have lv := leave_two W1 p' _ hin1.chg.is hin1.ok _ hu' (by rw [hst]; exact hs0)
    rw [hin1.eb, eB] at lv
    refine lv.mono ?_
    rintro e W2 ⟨v0, p2, rfl, c2, f2⟩
    have off : ∀ {q : Nat} {cs : Array Value} {ty : TypeId}, Row W q cs ty → ty ≠ 89 → Row W2 q cs ty := fun {q cs ty} r ht => (r.keep f1 (fun h => h)).keep f2 (by
      have := two_off hin1.chg.is hu' (r.keep f1 (fun h => h)) ht
      rw [eB] at this
      exact this)
    have in2 : In w p S p.b W2 p2 (leaS (leaL S l1) (S.q s o)[k]) := hin1.go c2 (ok_lea hin1.ok hu')
    have tg2 := kp_chg c2 _ _ tg
    have sm2 : Sm p p2 := by
      have := sm_of hin1.chg.is c2.is c2.eb f2 (by
        have := two_off hin1.chg.is hu' hin1.chg.is.row (by decide)
        rw [eB] at this
        exact this)
      exact ⟨this.1.trans sm.1, this.2.1.trans sm.2.1, this.2.2.1.trans sm.2.2.1, this.2.2.2.trans sm.2.2.2⟩
    have own2 : W2.ownsRow w.heap.size 3 1 (.slice xa xn xc) l1.length (l1.map (Value.int .i64)) := by
      refine ownsRow_at (ownsRow_at own (fun q _ hl => f1.block q hl (fun h => h))) (fun q hq hl => f2.block q hl ?_)
      obtain ⟨_, cur, r⟩ := own_rowB (ownsRow_at own (fun q _ hl => f1.block q hl (fun h => h))) hq
      have := two_off hin1.chg.is hu' r (by decide)
      rw [eB] at this
      exact this
    have own2' : W2.drew.ownsRow w.heap.size 3 1 (.slice xa xn xc) l1.length (l1.map (Value.int .i64)) := ownsRow_at own2 (fun _ _ _ => rfl)
    have hsz : w.heap.size ≤ W2.drew.heap.size := in2.chg.fr.size
    have hlen : l1.length ≤ 1024 := by
      have a := ok.len s o
      have b := List.length_filter_le G ((S.q s o).take k)
      rw [hl1, List.length_take] at b
      omega
    obtain ⟨v', w4, hrun, f4, own4, hv4⟩ := app_i W2.drew w.heap.size (.slice xa xn xc) l1.length _ own2' (by omega) hsz (S.q s o)[k]
    obtain ⟨va, vn, vc, rfl⟩ : ∃ a n c, v' = .slice a n c := by
      rcases own4.2 with h' | ⟨g, cap, _, h', _⟩
      · exact ⟨_, _, _, h'.1⟩
      · exact ⟨_, _, _, h'⟩
    have r3' : Row W2.drew (w.heap.size + 1 + 1 + 1) #[(.slice xa xn xc)] 37 := off r3 (by decide)
    have dr : ∀ {q : Nat} {cs : Array Value} {ty : TypeId}, Row W2 q cs ty → Row W2.drew q cs ty := fun r => r
    have r34 := fr_append f4 own2' r3' (by decide)
    have in3 : In w p S p.b w4 p2 (leaS (leaL S l1) (S.q s o)[k]) := (in2.keep0 (Fr.refl none' W2).drew).keepT f4 ((in2.keep0 (Fr.refl none' W2).drew).off3 h sm2 (T := fun k => some k = (Value.slice xa xn xc).ownBlock) (fun q hq => (own_rowB own2' hq).1) (fun q hq => Or.inl (own_rowB own2' hq).2)) (fun q hq => (own_rowB own2' hq).1)
    have f5 := fr_set w4 (w.heap.size + 1 + 1 + 1) 0 (.slice va vn vc) (Fr.refl (at' (w.heap.size + 1 + 1 + 1)) w4)
    have st : ∀ {q : Nat} {cs : Array Value} {ty : TypeId}, Row W q cs ty → ty ≠ 89 → ty ≠ 3 → q ≠ w.heap.size + 1 + 1 + 1 → Row (w4.setCell ⟨w.heap.size + 1 + 1 + 1, 0, none⟩ (.slice va vn vc)) q cs ty := fun {q cs ty} r a1 a2 a3 => (fr_append f4 own2' (dr (off r a1)) a2).keep f5 (fun e => a3 e)
    refine ⟨v0, rfl, xa, xn, xc, va, vn, vc, w4, (off r3 (by decide)).cell 0, (off r3 (by decide)).lt, in2.id tg2, hrun, ⟨(.slice xa xn xc), r34.cell 0⟩, r34.frozen 0, ⟨⟨p2, .slice va vn vc, ?_, sm2, r34.setCell 0 (.slice va vn vc), ?_, fun e => by omega⟩, st hc.r0 (by decide) (by decide) (by omega), st hc.r2 (by decide) (by decide) (by omega), st hc.r4 (by decide) (by decide) (by omega), st hc.r5 (by decide) (by decide) (by omega), hc.old.keep (fun z e hl => ?_) (fun _ _ => rfl)⟩, ?_⟩
    · rw [htf, leaL_app]
      exact in3.keepT f5 (fun q hq e => by
        have e : q = w.heap.size + 1 + 1 + 1 := e
        subst e
        have lo := sm_low h sm2
        rcases hq with e | e | e | e | e | ⟨n, hn, e⟩ | ⟨s', o', z, hz, e⟩
        · exact absurd (row_ty (e ▸ r34) in3.chg.is.row).1 (by decide)
        · omega
        · omega
        · omega
        · omega
        · exact absurd (row_ty (e ▸ r34) (in3.chg.is.tk n hn)).1 (by decide)
        · obtain ⟨cs, r⟩ := in3.chg.is.zrow hz
          exact absurd (row_ty (e ▸ r34) r).1 (by decide)) (fun q e => by have e : q = w.heap.size + 1 + 1 + 1 := e; omega)
    · rw [htf, List.length_append, List.map_append]
      exact setCell_own own4 r34 (by decide) (.slice va vn vc)
    · have := hc.old
      rw [e] at this
      obtain ⟨cs, r⟩ := this.row
      have r' := st r (by decide) (by decide) (fun e' => absurd (row_ty (e' ▸ r) r3).1 (by decide))
      rw [show (w4.setCell ⟨w.heap.size + 1 + 1 + 1, 0, none⟩ (.slice va vn vc)).heap[z.g]? = some (.cells cs 79 (0, 0)) from r', show W.heap[z.g]? = some (.cells cs 79 (0, 0)) from r]
    · have lo := sm_low h sm
      refine (keepsC f1 (fun _ h => h.elim)).trans ((keepsC f2 (fun q e => ?_)).trans ((keepsC (Fr.refl none' W2).drew (fun _ h => h.elim)).trans ((keepsC f4 (fun q e => Or.inr ?_)).trans (keepsC f5 (fun q e => by have e : q = w.heap.size + 1 + 1 + 1 := e; exact Or.inl (by omega))))))
      · rcases e with rfl | rfl
        · exact Or.inl (by omega)
        · have := hin1.chg.is.look hu'
          rw [eB] at this
          exact Or.inr ⟨_, _, this⟩
      · obtain ⟨_, cur, r⟩ := own_rowB own2' e
        exact ⟨cur, 3, r⟩
end

/-- append, kept shut. -/
def App (ats : Array TypeId) (ty : TypeId) (args : Array Value) : Sem Value := Builtin.append_ ats ty args
theorem builtin_app (ats : Array TypeId) (ty : TypeId) (cs : Array Bool) (args : Array Value) : builtin .append ats ty cs args = (do pure (.value (← App ats ty args))) := rfl
section
attribute [local go_sem] Oper.semAt_some
attribute [local go_sem ↓ high] builtin_app

set_option maxRecDepth 100000 in
set_option maxHeartbeats 4000000 in
theorem those_any (w : World) (p : Pb) (S : Ip) (h : IsI w p S) (ok : Ok S) (s o : Int) (hs : I64 s) (ho : I64 o) (hs0 : s ≠ 0) (G : Int → Bool) (gf : Nat) (lb : Array Value)
    (eg : ∀ args w, (callFunc gf args).run Try.prog w = .ok (.enter gf args) w)
    (hG : ∀ W p' S' x g, In w p S p.b W p' S' → Tg p' S' x g → (thrT S' x).sd = (thrT S x).sd → Calls Try.prog gf (#[pv g] ++ lb) W fun e W' => e = .returned (.bool (G x)) ∧ Fr none' W W') :
    Calls Try.prog 70 #[pv p.b, plV s o, .func (.func gf) #[] lb] w fun e w' => ∃ v p', e = .returned v ∧ In w p S p.b w' p' (leaL S ((S.q s o).filter G)) ∧ Sm p p' ∧ w'.ownsRow w.heap.size 3 1 v ((S.q s o).filter G).length (((S.q s o).filter G).map (Value.int .i64)) := by
  refine (callsIn_wide (n := 5)).1 ?_
  refine callsIn_of_wp_marks Try.func70 rfl trivial ?_ rfl
  simp only [Try.ntmps70, List.size_toArray, List.length_cons, List.length_nil, Nat.reduceAdd, Nat.reduceSub, Array.replicate_succ, Array.replicate_zero, List.push_toArray, List.append_toArray, List.nil_append, List.cons_append]
  gi_wp2_with fail
  refine ⟨trivial, (callsIn_wide.2 (queue_any p.b s o _)).mono ?_⟩
  rintro e w1 ⟨rfl, rfl⟩
  simp only [World.size_alloc]
  have i0 : Cx w p S s o G (.func (.func gf) #[] lb) 0 ((((((w.alloc (.cells #[pv p.b] 24)).alloc (.cells #[.int .i64 s, .int .i64 o] 82)).alloc (.cells #[.func (.func gf) #[] lb] 99)).alloc (.cells #[.slice none 0 0] 37)).alloc (.cells #[pv p.b] 24)).alloc (.cells #[.int .i64 s, .int .i64 o] 82)) := by
    have f0 := (Fr.refl none' w).alloc (.cells #[pv p.b] 24)
    have f1 := f0.alloc (.cells #[.int .i64 s, .int .i64 o] 82)
    have f2 := f1.alloc (.cells #[.func (.func gf) #[] lb] 99)
    have f3 := f2.alloc (.cells #[.slice none 0 0] 37)
    have f4 := f3.alloc (.cells #[pv p.b] 24)
    have f5 := f4.alloc (.cells #[.int .i64 s, .int .i64 o] 82)
    have q0 := row_alloc w #[pv p.b] 24
    have q2 := row_alloc1 (w.alloc (.cells #[pv p.b] 24)) (.cells #[.int .i64 s, .int .i64 o] 82) #[.func (.func gf) #[] lb] 99
    have q3 := row_alloc1 ((w.alloc (.cells #[pv p.b] 24)).alloc (.cells #[.int .i64 s, .int .i64 o] 82)) (.cells #[.func (.func gf) #[] lb] 99) #[.slice none 0 0] 37
    have q4 := row_alloc1 (((w.alloc (.cells #[pv p.b] 24)).alloc (.cells #[.int .i64 s, .int .i64 o] 82)).alloc (.cells #[.func (.func gf) #[] lb] 99)) (.cells #[.slice none 0 0] 37) #[pv p.b] 24
    have q5 := row_alloc1 ((((w.alloc (.cells #[pv p.b] 24)).alloc (.cells #[.int .i64 s, .int .i64 o] 82)).alloc (.cells #[.func (.func gf) #[] lb] 99)).alloc (.cells #[.slice none 0 0] 37)) (.cells #[pv p.b] 24) #[.int .i64 s, .int .i64 o] 82
    simp only [World.size_alloc] at q2 q3 q4 q5
    exact ⟨⟨p, .slice none 0 0, (In.start h ok).keep0 f5, ⟨rfl, rfl, rfl, rfl⟩, (q3.alloc _).alloc _, ⟨rfl, Or.inl ⟨rfl, rfl⟩⟩, fun _ => rfl⟩, ((((q0.alloc _).alloc _).alloc _).alloc _).alloc _, ((q2.alloc _).alloc _).alloc _, q4.alloc _, q5, (h.qu s o).keep (fun z _ hl => f5.block _ hl (fun h => h)) (fun _ _ => rfl)⟩
  gi_wp2_with fail
  refine range13 (m := (S.q s o).length) (xs := fun k => #[pv (p.B ((S.q s o).getD k 0))]) (by omega) rfl enters_q1 (queue1_seq _ _ _ p.b p.q s o hs ho (p.V s o) (S.q s o) p.B (h.ql ok s o)) (fun _ => rfl) (Cx w p S s o G (.func (.func gf) #[] lb)) (fun _ _ => False) (cx_own h (by simp only [World.size_alloc]; omega)) (fun _ _ _ _ h => h.elim)
    (fun k V hk => ⟨fun hz => ?_, fun z x e hx => ?_⟩) i0
    (fun k => { tmps := #[pv p.b, plV s o, .func (.func gf) #[] lb, .pointer (some ⟨w.heap.size, 0, none⟩), .pointer (some ⟨w.heap.size + 1, 0, none⟩), .pointer (some ⟨w.heap.size + 1 + 1, 0, none⟩), .slice none 0 0, .pointer (some ⟨w.heap.size + 1 + 1 + 1, 0, none⟩), pv (p.B ((S.q s o).getD k 0)), pv p.b, plV s o, .func (.func 85) #[] #[pv (w.heap.size + 1 + 1 + 1 + 1), pv (w.heap.size + 1 + 1 + 1 + 1 + 1)], pv (p.B ((S.q s o).getD k 0)), undef, undef, undef, undef, undef, undef, undef, undef, undef, undef, undef, undef, undef, undef], defers := [] }) ?assign ?body ?done (fun _ _ _ _ _ h => h.elim)
  case refine_1 =>
    obtain ⟨p', v, hin, sm, _, _, hV0⟩ := hk.ex
    have hb := hin.chg.is.c1
    rw [hin.eb, sm.2.1] at hb
    subst hz
    have hV := hin.chg.is.mq
    rw [sm.2.1] at hV
    exact ⟨hk.r4.cell 0, hb, hk.r5.cell 0, hk.r5.cell 1, p'.V, hV, by rw [hV0 rfl]⟩
  case refine_2 =>
    have := hk.old
    rw [e] at this
    obtain ⟨_, _, _, _, cs, r, _, hc⟩ := this
    rw [r.cell]
    exact hc k x hx
  case assign =>
    intro l k W K hK
    gi_wp2
    exact hK
  case body =>
    intro l k W hI hk
    obtain ⟨g, x, hg, c2, hcall, hno, hyes⟩ := cx_round h ok hs0 hG hI hk
    rw [← hg]
    have HN : Hid _ := hno
    have HY : Hid _ := hyes
    clear hg hno hyes hI hG
    gi_wp2_with fail
    refine ⟨trivial, (CallsIn.inRound l (callsIn_wide.2 hcall)).mono ?_⟩
    rintro e W1 ⟨rfl, f1⟩
    cases hx : G x with
    | false =>
      have HE : Hid _ := HN.out hx W1 f1
      clear HN HY hx c2 hcall
      gi_wp2_with fail
      exact ⟨by simp only [World.size_alloc]; exact HE.out.2, HE.out.1⟩
    | true =>
      obtain ⟨c0, hl⟩ := HY.out hx W1 f1
      clear HN HY hx c2 hcall
      gi_wp2_with fail
      refine ⟨trivial, (CallsIn.inRound l (callsIn_wide.2 hl)).mono ?_⟩
      rintro e W2 ⟨v0, rfl, xa, xn, xc, va, vn, vc, w4, d3, dlt, dg, hrun, ⟨u, d4⟩, z4, hcx, hkf⟩
      have HE : Hid _ := And.intro hkf hcx
      clear hkf hcx c0 hl f1
      have hrun' : (App #[37, 37] 37 #[.slice xa xn xc, .slice (some ⟨W2.heap.size, 0, none⟩) 1 1]).run Try.prog ((W2.alloc (.cells #[.int .i64 x] 3)).drew) = .ok (.slice va vn vc) w4 := hrun
      have hmix : Try.prog.follows .mixedOrders = true := by kernel_rfl
      clear hrun
      gi_wp2_with fail
      gi_region_with_o (fail)
      all_goals gi_wp2_with fail
      all_goals exact ⟨by simp only [World.size_alloc]; exact HE.out.1, HE.out.2⟩
  case done =>
    intro D W hD hI hK
    obtain ⟨p', v, hin, sm, r3, own, _⟩ := hI.ex
    have c3 := r3.cell 0
    gi_wp2
    refine ⟨by simp, .inl ⟨_, _, rfl, run_takeDeferred hK, ?_⟩⟩
    have hr : ∀ r, some D = some r → w.heap.size ≤ r ∧ ∃ o : Obj, W.heap[r]? = some o ∧ o.isCells = false := fun r e => by
      cases e
      simp only [World.size_alloc] at hD
      exact ⟨by omega, _, hK, rfl⟩
    rw [List.take_length] at hin own
    exact ⟨_, results_tmp rfl _ _ _, v, p', rfl, hin.grown h sm (grownBy_putObj' _ D (.deferred none)) (Nat.le_refl _) hr, sm, ownsRow_grown own (grownBy_putObj' _ D (.deferred none)) (fun r e => (hr r e).2)⟩
end

end Go.Proofs.Ytjobdfkfongjaaa
