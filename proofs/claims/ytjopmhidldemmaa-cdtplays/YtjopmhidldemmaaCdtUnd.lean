/-
  The document's under, Descendants and List over the translation. No statement is proved here.
-/
import Derived.Test.YtjopmhidldemmaaCdtPreA
namespace Go.Proofs.Ytjopmhidldemmaa
open Go.RowKit Go.Maps Go.WideMaps

/-- Names of the call's own. -/
def Nml (w : World) (B : Nat) (v : Value) (l : List Rf) : Prop := OwnK 33 2 w B v l.length (flatV l)

/-- Many names more. -/
theorem append_nm {w : World} {B B' : Nat} {v u : Value} {l m : List Rf} (hb : B ≤ w.heap.size) (ho : Nml w B v l) (hu : Nml w B' u m) (hl : l.length ≤ 10000000) (hm : m.length ≤ 10000000) :
    ∃ v' w', (Builtin.append_ #[36, 36] 36 #[v, u]).run Try.prog w = .ok v' w' ∧ Fr (fun q => some q = v.ownBlock) w w' ∧ Nml w' B v' (l ++ m) := by
  have hi := info_ref
  cases hq : Try.prog.info? 33 with
  | none => simp [hq] at hi
  | some i =>
    rw [hq] at hi
    simp only [Option.map_some, Option.some.injEq, Prod.mk.injEq] at hi
    obtain ⟨hz0, hs, hby⟩ := hi
    by_cases hn : m.length = 0
    · have hum := hu.2 hn
      have hml := List.eq_nil_of_length_eq_zero hn
      subst hum hml
      have := run_append_owned_none (P := Try.prog) (w := w) B 36 36 33 i 2 Try.underlying36 hq v l.length _ ho.1
      exact ⟨v, w, this, Fr.refl _ _, by rw [List.append_nil]; exact ho⟩
    · obtain ⟨g, cap, cur, hv, _, hr, _, _, _, hx⟩ := hu.row hn
      rw [hv]
      obtain ⟨v', w', g1, g2, g3, g4⟩ := run_append_own (P := Try.prog) (w := w) B 36 36 33 i (.agg #[.int .i64 0, .int .i64 0]) 2 16 Try.underlying36 hq hz0 hs hby rfl (by omega) v l.length _ ho.1 ⟨g, 0, none⟩ m.length cap (flatV m) (flatV_len m) (fun j x hj => by
        rw [add_lit', Nat.zero_add, hr.cell]
        exact hx j x hj) (fun x hx => by
        obtain ⟨n, _, hx⟩ := List.mem_flatMap.1 hx
        simp [encR] at hx
        rcases hx with rfl | rfl <;> rfl) (by simp only [maxLen]; omega) (by omega) hb
      refine ⟨v', w', g1, fr_of_grown g3, ?_⟩
      unfold Nml
      rw [flatV_append, List.length_append]
      exact ⟨g2, fun h => by omega⟩

def UnderIs (L : List On) (F : List En) (l : List Nat) : Prop := ∀ (w : World) (B r : Nat) (q : Qr) (ro : List Nat), IsR w B r q L ro → ∀ (B1 : Nat) (v1 : Value), Ks w B1 v1 l →
    Calls Try.prog 23 #[pv r, v1] w fun e w' => ∃ v, e = .returned v ∧ Nml w' w.heap.size v (F.map (·.a)) ∧ Fr none' w w'

set_option maxRecDepth 100000 in
set_option maxHeartbeats 2000000 in
theorem under_step (n : Nat) (L : List On) (IH : ∀ (F : List En) (d : Int) (l : List Nat), Pre L d l F → F.length < n → UnderIs L F l)
    (F : List En) (d : Int) (l : List Nat) (hP : Pre L d l F) (hF : F.length = n) (hn : n ≤ 1000) : UnderIs L F l := by
  intro w B r q ro h B1 v1 h1
  obtain ⟨S, s1, s2, s3⟩ := hP.parts
  obtain ⟨a1, cap1, rfl, hc1⟩ := h1.cells
  have hsz : ∀ j, (S.take j).flatten.length ≤ 1000 := fun j => by
    have e := congrArg List.flatten (List.take_append_drop j S)
    rw [List.flatten_append, ← s2] at e
    have := congrArg List.length e
    rw [List.length_append] at this
    omega
  have hpc : ∀ (j : Nat) (G : List En), S[j]? = some G → G.length ≤ F.length := fun j G hj => by
    rw [s2]
    have := List.sublist_flatten_of_mem (List.mem_of_getElem? hj)
    exact this.length_le
  have HZ : Hid _ := ⟨And.intro hsz hpc⟩
  have HS : Hid _ := ⟨s3⟩
  have H2 : Hid (F = S.flatten) := ⟨s2⟩
  have HI : Hid _ := ⟨IH⟩
  have HR : Hid (IsR w B r q L ro) := ⟨h⟩
  have HC : Hid _ := ⟨hc1⟩
  have HF : Hid (F.length = n) := ⟨hF⟩
  have HM : Hid (n ≤ 1000) := ⟨hn⟩
  obtain ⟨N, hN⟩ : ∃ N, N = l.length := ⟨_, rfl⟩
  have HN : Hid (N = l.length ∧ N = S.length) := ⟨hN, hN.trans s1.symm⟩
  have hNs : N ≤ 1000 := by
    have := h.sm
    have hk : ∀ (S : List (List En)), (∀ G ∈ S, 0 < G.length) → S.length ≤ S.flatten.length := fun S => by
      induction S with
      | nil => intro _; simp
      | cons G S ih =>
        intro hh
        have h1 := ih (fun G' h' => hh G' (by simp [h']))
        have h2 := hh G (by simp)
        simp
        simp at h1
        omega
    have h3 := hk S (fun G hG => by
      obtain ⟨i, hi, e⟩ := List.getElem_of_mem hG
      obtain ⟨o, G', _, e2, _⟩ := s3 i l[i] (List.getElem?_eq_getElem (by omega))
      rw [List.getElem?_eq_getElem hi, e] at e2
      cases e2
      simp)
    rw [← s2] at h3
    omega
  rw [← hN]
  clear hN h h1 hc1 s1 s2 s3 IH hP hsz hpc hF hn
  go_enter Try.func23, Try.ntmps23
  go_wp2_with fail
  go_loopw [5, 6] (fun v i wr => ∃ j : Nat, j ≤ N ∧ i = .int .i64 (j : Int) ∧ Hid (Fr none' w wr) ∧ Hid (Nml wr w.heap.size v ((S.take j).flatten.map (·.a)))) (fun _ i _ => N - (intOf i).toNat)
  case atStart => exact ⟨0, by omega, rfl, ⟨Fr.refl _ _⟩, ⟨by rw [List.take_zero]; exact ownk_nil _ _ _ _⟩⟩
  case round =>
    obtain ⟨j, hj, rfl, fr, hK⟩ := hrel
    by_cases hlt : j < N
    · have hjL : j < l.length := by rw [← HN.out.1]; exact hlt
      obtain ⟨x, hx⟩ : ∃ x, l[j]? = some x := ⟨l[j], List.getElem?_eq_getElem hjL⟩
      obtain ⟨g, rfl, d0⟩ := HC.out j x hx
      obtain ⟨o, G, ho, hS, hG⟩ := HS.out j x hx
      have HT : Hid (S.take (j + 1) = S.take j ++ [⟨o.a, d⟩ :: G]) := ⟨by
        have hjS : j < S.length := by rw [← HN.out.2]; exact hlt
        rw [List.take_succ_eq_append_getElem hjS]
        rw [List.getElem?_eq_getElem hjS] at hS
        rw [Option.some.inj hS]⟩
      have hGl : G.length < n := by
        have := HZ.out.2 j _ hS
        rw [HF.out] at this
        simp at this
        omega
      have hU := HI.out G (d + 1) o.ks hG hGl
      have hsz := HZ.out.1 j
      have hsz2 : ((S.take j).flatten.map (·.a)).length ≤ 1000 := by rw [List.length_map]; exact hsz
      have hR1 := HR.out.keep0 fr.out
      obtain ⟨ad0, cap, hv, hnn⟩ := hR1.form
      obtain ⟨gL, rfl, e0, e1, _, e3, _⟩ := hnn x o ho
      have hxl := (List.getElem?_eq_some_iff.1 ho).1
      have c0 := hR1.c0
      rw [hv] at c0
      have d00 := d0
      replace d0 := cell_keep fr.out d0 (fun h => h)
      have i1 : 0 ≤ (j : Int) ∧ (j : Int) < (N : Int) := by omega
      have i2 : 0 ≤ (x : Int) ∧ (x : Int) < (L.length : Int) := by omega
      have uk : decide ((j : Int) < (N : Int)) = true := decide_eq_true (by omega)
      obtain ⟨V, hV⟩ : ∃ V, V = (wr.alloc (.cells #[.int .i64 o.a.n, .int .i64 o.a.i] 33)).drew := ⟨_, rfl⟩
      have fV : Fr none' wr V := by rw [hV]; exact ((Fr.refl none' wr).alloc _).drew
      have rV : Row V wr.heap.size #[.int .i64 o.a.n, .int .i64 o.a.i] 33 := by rw [hV]; exact row_alloc wr _ _
      have kV := OwnK.keep0 hK.out fV
      obtain ⟨v2, w2, hrun1, f2, o2⟩ := append_ref V w.heap.size wr.heap.size _ _ o.a (fr.out.trans fV).size kV (by omega) rV
      have f3 : Fr none' w w2 := (fr.out.trans fV).ownK f2 kV
      have F3 : Hid (Fr none' w w2) := ⟨f3⟩
      have O2 : Hid (Nml w2 w.heap.size v2 ((S.take j).flatten.map (·.a) ++ [o.a])) := ⟨o2⟩
      have hR2 := HR.out.keep0 f3
      have c0' := hR2.c0
      rw [hv] at c0'
      have d0' := cell_keep f3 d00 (fun h => h)
      obtain ⟨ad', cap', hv', hnn'⟩ := hR2.form
      rw [hv] at hv'
      simp only [Value.slice.injEq] at hv'
      obtain ⟨r1, _, r3⟩ := hv'
      subst r1 r3
      obtain ⟨gL', eL, _, _, _, e3', _⟩ := hnn' x o ho
      simp only [Option.some.injEq, Addr.mk.injEq, and_true] at eL
      subst eL
      have hC := hU w2.drew B r q ro (hR2.keep0 (Fr.refl none' w2).drew) B (q.K x) (OwnK.keep0 (hR2.kd x o ho) (Fr.refl none' w2).drew)
      generalize q.K x = kx at *
      have HX : Hid (w2.cell? ⟨r, 0, none⟩ = some (.slice (some ⟨gL, 0, none⟩) L.length cap) ∧ w2.cell? ⟨g, j, none⟩ = some (.int .i64 (x : Int)) ∧ w2.cell? ⟨gL, x * 5 + 3, none⟩ = some kx) := ⟨c0', d0', e3'⟩
      have hG2 : (G.map (·.a)).length ≤ 1000 := by rw [List.length_map]; have := HZ.out.2 j _ hS; have h2 := HF.out; have h3 := HM.out; simp at this; omega
      rw [hV] at hrun1
      clear d00 hV rV kV f2 o2 hR1 hR2 hnn hnn' hv fV e3 hK hU hG hS hx f3 hjL hGl hsz ho
      generalize hML : L.length = M at *
      clear hML
      have c0 := c0
      go_wp2_with fail
      go_region_law (refine step_append_run rfl (.tmp 14) (.tmp 26) 36 rfl _ _ _ _ rfl rfl hrun1 ?_)
      all_goals clear hrun1 c0 d0 e0 e1 fr
      all_goals go_wp2_with fail
      all_goals go_region_held3 (fun w' => w'.cell? ⟨r, 0, none⟩ = some (.slice (some ⟨gL, 0, none⟩) M cap) ∧ w'.cell? ⟨g, j, none⟩ = some (.int .i64 (x : Int)) ∧ w'.cell? ⟨gL, x * 5 + 3, none⟩ = some kx) (first | with_reducible exact ⟨c0', d0', e3'⟩ | with_reducible exact ⟨x0, x1, x2⟩ | go_keep) (first | (go_at_call 23; refine hC.mono ?_; rintro e w4 ⟨u, rfl, ou, f4⟩; (replace f4 := (Fr.refl none' w2).drew.trans f4); (have x0 := cell_keep f4 HX.out.1 (fun h => h)); (have x1 := cell_keep f4 HX.out.2.1 (fun h => h)); (have x2 := cell_keep f4 HX.out.2.2 (fun h => h))))
      all_goals (
        obtain ⟨v5, w5, hrun2, f5, o5⟩ := append_nm (F3.out.trans f4).size (OwnK.keep0 O2.out f4) ou (by rw [List.length_append]; simp only [List.length_cons, List.length_nil]; omega) (by omega)
        have F5 : Hid (Fr none' w w5) := ⟨(F3.out.trans f4).ownK f5 (OwnK.keep0 O2.out f4)⟩
        have O5 : Hid (Nml w5 w.heap.size v5 ((S.take (j + 1)).flatten.map (·.a))) := ⟨by
          rw [HT.out, List.flatten_append, List.map_append]
          simpa using o5⟩
        clear ou f5 o5 O2 F3 c0' d0' e3' x0 x1 x2 hC HX
        go_wp2_with (at_builtin; refine wpList_append_runK rfl _ _ 36 rfl _ _ rfl rfl _ _ hrun2 ?_)
        go_roundw
        case rel => exact ⟨j + 1, by omega, by go_num, F5, O5⟩
        case measure => simp [intOf]; omega)
    · obtain rfl : j = N := by omega
      have uk : decide ((j : Int) < (j : Int)) = false := decide_eq_false (by omega)
      go_wp2_with fail
      go_ret
      refine ⟨_, rfl, ?_, fr.out⟩
      have := hK.out
      rw [HN.out.2, List.take_length, ← H2.out] at this
      exact this

end Go.Proofs.Ytjopmhidldemmaa
