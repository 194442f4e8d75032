/-
  A thread leaves its queue, over the translation. No statement is proved here.
-/
import Derived.Test.YtjobdfkfongjaaaIpDel
import Derived.Deep.CutBlock
import Derived.Deep.CutRange
namespace Go.Proofs.Ytjobdfkfongjaaa
open Go.RowKit Go.Maps Go.WideMaps

/-- What Clone and DeleteFunc answer, one behind the other. -/
def LvOut (W : World) (B : Int → Nat) (l' : List Int) (g m c : Nat) (w2 : World) : Prop := m = l'.length ∧ Fr none' W w2 ∧ W.heap.size ≤ g ∧ (l' ≠ [] → QR w2 B (some ⟨g, m, c⟩) l')

theorem lv_calls (W : World) (B : Int → Nat) (z : Qs) (l : List Int) (t : Int) (cb : Nat) (h : QR W B (some z) l) (hr : ∀ x, x ∈ l ∨ x = t → ∃ cs ty, Row W (B x) cs ty) (hi : ∀ x ∈ l, B x = B t → x = t) (rc : Row W cb #[pv (B t)] 79) (hl : l.length ≤ 5000) :
    Calls Try.prog 88 #[qV z] W fun e w1 => ∃ g n c, e = .returned (.slice (some ⟨g, 0, none⟩) n c) ∧ Fr none' W w1 ∧
      Calls Try.prog 87 #[.slice (some ⟨g, 0, none⟩) n c, .func (.func 86) #[] #[pv cb]] w1 fun e w2 => ∃ m : Nat, e = .returned (.slice (some ⟨g, 0, none⟩) m c) ∧ LvOut W B (outT t l) g m c w2 := by
  refine (clone_p W B z l h hl).mono ?_
  rintro e w1 ⟨z', rfl, f1, q1, hg⟩
  refine ⟨z'.g, z'.n, z'.c, rfl, f1, ?_⟩
  have rc1 := rc.keep f1 (fun h => h)
  have hcl := rc.lt
  refine (del_p w1 B z' l t cb q1 (fun x hx => ?_) hi (by omega) rc1 hl).mono ?_
  · obtain ⟨cs, ty, r⟩ := hr x hx
    have := r.lt
    exact ⟨by omega, cs, ty, r.keep f1 (fun h => h)⟩
  · rintro e w2 ⟨rfl, f2, q2⟩
    exact ⟨_, rfl, rfl, fr_high f1 f2 (fun q hq => by have : q = z'.g := hq; omega), hg, q2⟩

theorem LvOut.drew {W : World} {B : Int → Nat} {l' : List Int} {g m c : Nat} {w2 : World} (h : LvOut W B l' g m c w2) : LvOut W B l' g m c w2.drew :=
  ⟨h.1, h.2.1.drew, h.2.2.1, fun hne => (h.2.2.2 hne).keep (fun _ _ _ => rfl) (fun _ _ => rfl)⟩

theorem leaS_eq {S : Ip} {t : Int} {u : Th} (hf : fnd S.L t = some u) : leaS S t = { S with L := upd S.L t (setP 0 (-1)), q := uq S.q u.st u.on (outT t) } := by
  have e : thrT S t = u := by unfold thrT; rw [hf]; rfl
  unfold leaS plcS plcO
  rw [e]
  rfl

/-- What is left to do behind the queue's row: the map, then the thread's place. -/
theorem lv_end (w W w2 : World) (p : Pb) (S : Ip) (h : IsI w p S) (ok : Ok S) (t : Int) {u : Th} (hf : fnd S.L t = some u) (hst : u.st ≠ 0) (f0 : Fr none' w W) {g m c : Nat} (hO : LvOut W p.B (outT t (S.q u.st u.on)) g m c w2) :
    ∃ (w3 : World) (v : Option Qs), (if outT t (S.q u.st u.on) = [] then v = none ∧ ∀ ty, (Builtin.delete_ #[69, 82] ty #[.map (some p.q), plV u.st u.on]).run Try.prog w2 = .ok (.tuple #[]) w3 else v = some ⟨g, m, c⟩ ∧ (Instr.mapUpdate 69 (.map (some p.q)) (plV u.st u.on) (qV ⟨g, m, c⟩)).run Try.prog w2 = .ok () w3) ∧
      Fr (at' p.q) w2 w3 ∧ Chg w p S w3 { p with V := uV p.V u.st u.on v } { S with q := uq S.q u.st u.on (outT t) } := by
  obtain ⟨hm, f1, hg, hq⟩ := hO
  have hk : okK (u.st, u.on) := by
    have := ok.pl t u hf
    unfold okP at this
    unfold okK
    simp only
    omega
  have f2 := f0.trans f1
  have hsz := f0.size
  have h2 := h.keep0 f2
  have hmem : t ∈ S.q u.st u.on := (ok.mem _ _ t).2 ⟨u, hf, rfl, rfl, hst⟩
  cases hV : p.V u.st u.on with
  | none =>
    have := h.qu u.st u.on
    rw [hV] at this
    rw [show S.q u.st u.on = [] from this] at hmem
    cases hmem
  | some z =>
    by_cases he : outT t (S.q u.st u.on) = []
    · obtain ⟨w3, hrun, hm3, f3⟩ := h2.mq.drop hk hV (f' := uV p.V u.st u.on none) (fun _ _ => rfl)
      refine ⟨w3, none, by rw [if_pos he]; exact ⟨rfl, hrun⟩, f3, ?_⟩
      exact h.setQ' ((f2.mono (fun _ _ h => h.elim)).trans (f3.mono (fun k _ e => Or.inr e))) he (fun z e => by cases e) hm3
    · obtain ⟨w3, hrun, hm3, f3⟩ := h2.mq.store hk ⟨g, m, c⟩ (f' := uV p.V u.st u.on (some ⟨g, m, c⟩)) (fun _ _ => rfl)
      refine ⟨w3, some ⟨g, m, c⟩, by rw [if_neg he]; exact ⟨rfl, hrun⟩, f3, ?_⟩
      have hql := h.mq.lt
      refine h.setQ' ((f2.mono (fun _ _ h => h.elim)).trans (f3.mono (fun k _ e => Or.inr e))) ((hq he).keep (fun z' e _ => f3.block _ (by cases e; exact (hq he).row.choose_spec.lt) (fun e' => ?_)) (fun _ _ => rfl)) (fun z' e => by cases e; exact Or.inr (by show w.heap.size ≤ g; omega)) hm3
      cases e
      have e' : g = p.q := e'
      omega

set_option maxRecDepth 100000 in
set_option maxHeartbeats 2000000 in
theorem leave_any (w : World) (p : Pb) (S : Ip) (h : IsI w p S) (ok : Ok S) (t : Int) {u : Th} (hf : fnd S.L t = some u) (hst : u.st ≠ 0) : Calls Try.prog 55 #[pv p.b, pv (p.B t)] w fun e w' => ∃ v p', e = .returned v ∧ Chg w p S w' p' (leaS S t) := by
  rw [leaS_eq hf]
  have hmem : t ∈ S.q u.st u.on := (ok.mem _ _ t).2 ⟨u, hf, rfl, rfl, hst⟩
  obtain ⟨z, hV⟩ : ∃ z, p.V u.st u.on = some z := by
    cases hV : p.V u.st u.on with
    | none =>
      have := h.qu u.st u.on
      rw [hV] at this
      rw [show S.q u.st u.on = [] from this] at hmem
      cases hmem
    | some z => exact ⟨z, rfl⟩
  have hp64 : I64 u.st ∧ I64 u.on := by
    have := ok.pl t u hf
    unfold okP at this
    unfold I64
    omega
  have f0 := (Fr.refl none' w).alloc (.cells #[pv (p.B t)] 79)
  have hb := row_alloc w #[pv (p.B t)] 79
  have hlt := (h.look hf).lt
  -- what is read, in whatever world where nothing old has turned
  have LD : Hid (∀ W, Fr none' (w.alloc (.cells #[pv (p.B t)] 79)) W → W.cell? ⟨p.b, 1, none⟩ = some (.map (some p.q)) ∧ W.cell? ⟨w.heap.size, 0, none⟩ = some (pv (p.B t)) ∧ W.cell? ⟨p.B t, 1, none⟩ = some (.int .i64 u.st) ∧ W.cell? ⟨p.B t, 2, none⟩ = some (.int .i64 u.on) ∧ (Instr.lookup 69 (.map (some p.q)) (plV u.st u.on) false).run Try.prog W = .ok (.slice (some ⟨z.g, 0, none⟩) z.n z.c) W) := fun W f => by
    have h' := (h.keep0 f0).keep0 f
    have hL := h'.mq.look hp64.1 hp64.2
    rw [hV] at hL
    exact ⟨h'.c1, (hb.keep f (fun h => h)).cell 0, (h'.look hf).cst, (h'.look hf).con, hL⟩
  have CL : Hid (∀ W, Fr none' (w.alloc (.cells #[pv (p.B t)] 79)) W → Calls Try.prog 88 #[.slice (some ⟨z.g, 0, none⟩) z.n z.c] W fun e w1 => ∃ g n c, e = .returned (.slice (some ⟨g, 0, none⟩) n c) ∧ Fr none' W w1 ∧
      Calls Try.prog 87 #[.slice (some ⟨g, 0, none⟩) n c, .func (.func 86) #[] #[pv w.heap.size]] w1 fun e w2 => ∃ m : Nat, e = .returned (.slice (some ⟨g, 0, none⟩) m c) ∧ LvOut W p.B (outT t (S.q u.st u.on)) g m c w2) := fun W f => by
    have h' := (h.keep0 f0).keep0 f
    have hq := h'.qu u.st u.on
    rw [hV] at hq
    refine lv_calls W p.B z _ t w.heap.size hq (fun x hx => ?_) (fun x hx e => ?_) (hb.keep f (fun h => h)) (by have := ok.len u.st u.on; omega)
    · have : ∃ v, fnd S.L x = some v := by
        rcases hx with hx | rfl
        · exact ok.all x hx
        · exact ⟨u, hf⟩
      obtain ⟨v, hv⟩ := this
      exact ⟨_, _, h'.look hv⟩
    · obtain ⟨v, hv⟩ := ok.all x hx
      have e1 := fnd_mem hv
      have e2 := fnd_mem hf
      have := h.inj v e1.1 u e2.1 (by rw [e1.2, e2.2]; exact e)
      rw [e1.2, e2.2] at this
      exact this
  -- what is left when the row is made
  have EN : Hid (∀ W w2 g m c, Fr none' (w.alloc (.cells #[pv (p.B t)] 79)) W → LvOut W p.B (outT t (S.q u.st u.on)) g m c w2 → (m = 0 ↔ outT t (S.q u.st u.on) = []) ∧ Fr none' (w.alloc (.cells #[pv (p.B t)] 79)) w2 ∧ ∃ (w3 : World) (v : Option Qs), (if outT t (S.q u.st u.on) = [] then v = none ∧ ∀ ty, (Builtin.delete_ #[69, 82] ty #[.map (some p.q), plV u.st u.on]).run Try.prog w2 = .ok (.tuple #[]) w3 else v = some ⟨g, m, c⟩ ∧ (Instr.mapUpdate 69 (.map (some p.q)) (plV u.st u.on) (qV ⟨g, m, c⟩)).run Try.prog w2 = .ok () w3) ∧
      (∀ w4, Fr none' w3 w4 → w4.cell? ⟨w.heap.size, 0, none⟩ = some (pv (p.B t)) ∧ w4.cell? ⟨p.B t, 1, none⟩ = some (.int .i64 u.st) ∧ w4.cell? ⟨p.B t, 2, none⟩ = some (.int .i64 u.on) ∧ (∀ i, w4.frozen? ⟨p.B t, i, none⟩ = false) ∧ ∃ p', Chg w p S ((w4.setCell ⟨p.B t, 1, none⟩ (.int .i64 0)).setCell ⟨p.B t, 2, none⟩ (.int .i64 (-1))) p' { S with L := upd S.L t (setP 0 (-1)), q := uq S.q u.st u.on (outT t) })) := fun W w2 g m c f hO => by
    obtain ⟨w3, v, h1, f3, hC⟩ := lv_end w W w2 p S h ok t hf hst (f0.trans f) hO
    refine ⟨by rw [hO.1]; exact List.length_eq_zero_iff, f.trans hO.2.1, w3, v, h1, fun w4 f4 => ?_⟩
    have h4 := hC.is.keep0 f4
    have r4 := h4.look (k := t) hf
    have hql := h.mq.lt
    have rb : Row w4 w.heap.size #[pv (p.B t)] 79 := ((hb.keep (f.trans hO.2.1) (fun h => h)).keep f3 (fun e => by have e' : w.heap.size = p.q := e; omega)).keep f4 (fun h => h)
    refine ⟨rb.cell 0, r4.cst, r4.con, fun i => r4.frozen i, { p with V := uV p.V u.st u.on v }, ?_⟩
    exact (hC.after f4).trans (h4.setTk (k := t) hf (f := setP 0 (-1)) (fun _ => rfl) (fr_set _ _ _ _ (fr_set _ _ _ _ (Fr.refl _ _))) (r4.setP 0 (-1)))
  clear h ok hf hst hmem hV hp64 f0 hb
  generalize outT t (S.q u.st u.on) = l' at *
  obtain ⟨x0, x1, x2, x3, x4⟩ := LD.out _ (Fr.refl none' _)
  go_enter Try.func55, Try.ntmps55
  go_wp2_with fail
  generalize w.alloc (.cells #[pv (p.B t)] 79) = W0 at *
  generalize hzg : z.g = zg at *
  generalize hzn : z.n = zn at *
  generalize hzc : z.c = zc at *
  clear hzg hzn hzc
  obtain ⟨_, _, _, _, y4⟩ := LD.out W0.drew (Fr.refl none' W0).drew
  go_cut [5] from 7 to 18 (fun v wx => ∃ g m c : Nat, v = .slice (some ⟨g, 0, none⟩) m c ∧ Hid (LvOut W0.drew p.B l' g m c wx))
  case first =>
    go_region_with (first | (go_at_call 88; refine (CL.out _ (Fr.refl none' W0).drew).mono ?_; rintro e w1 ⟨g, n, c, rfl, f1, hD⟩; have HD : Hid _ := hD; clear hD) | (go_at_call 87; refine (Calls.mono HD.out ?_); rintro e w2 ⟨m, rfl, hO⟩; have HO : Hid _ := hO; clear hO))
    all_goals go_wp2_with fail
    all_goals go_meet
    all_goals exact ⟨_, _, _, rfl, HO⟩
  case rest =>
    obtain ⟨g, m, c, rfl, HO⟩ := hcut
    clear x0 x1 x2 x3 x4 y4 CL
    obtain ⟨hm0, F2, w3, vv, h1, h4⟩ := EN.out W0.drew (wc.drew) g m c (Fr.refl none' W0).drew HO.out.drew
    obtain ⟨x0, x1, x2, x3, _⟩ := LD.out wc ((Fr.refl none' W0).drew.trans HO.out.2.1)
    have H4 : Hid _ := h4
    clear h4
    by_cases he : l' = []
    · rw [if_pos he] at h1
      obtain ⟨rfl, hrun⟩ := h1
      have hm1 : m = 0 := hm0.2 he
      subst hm1
      clear hm0 he EN LD HO
      go_wp2_with fail
      go_region_with (fail)
      all_goals (obtain ⟨e0, e1, e2, e3, _⟩ := H4.out w3 (Fr.refl _ _); go_wp2_with fail)
      all_goals go_region_with (go_at_call 84; refine (nowhere_any _).mono ?_; rintro e w4 ⟨rfl, f4⟩; obtain ⟨g0, g1, g2, g3, hC⟩ := H4.out w4 ((Fr.refl none' w3).drew.trans f4); have k1 := g3 1; have k2 := g3 2; clear g3; have HC : Hid _ := hC; clear hC)
      all_goals refine post_void rfl rfl fun v => ?_
      all_goals exact ⟨v, HC.out.choose, rfl, HC.out.choose_spec⟩
    · rw [if_neg he] at h1
      obtain ⟨rfl, hrun⟩ := h1
      have hm1 : ¬ m = 0 := fun e => he (hm0.1 e)
      have hm2 : ((m : Int) == 0) = false := by simpa using hm1
      clear hm0 he EN LD HO hm1
      simp only [qV] at hrun
      go_wp2_with fail
      go_region_with (fail)
      all_goals (obtain ⟨e0, e1, e2, e3, _⟩ := H4.out w3 (Fr.refl _ _); go_wp2_with fail)
      all_goals go_region_with (go_at_call 84; refine (nowhere_any _).mono ?_; rintro e w4 ⟨rfl, f4⟩; obtain ⟨g0, g1, g2, g3, hC⟩ := H4.out w4 ((Fr.refl none' w3).drew.trans f4); have k1 := g3 1; have k2 := g3 2; clear g3; have HC : Hid _ := hC; clear hC)
      all_goals refine post_void rfl rfl fun v => ?_
      all_goals exact ⟨v, HC.out.choose, rfl, HC.out.choose_spec⟩

end Go.Proofs.Ytjobdfkfongjaaa
