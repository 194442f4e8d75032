/-
  The walk of the law CdtPlays over the translation: it answers true. No statement is proved here.
-/
import Derived.Test.YtjopmhidldemmaaCdtAsk
namespace Go.Proofs.Ytjopmhidldemmaa
open Go.RowKit Go.Maps Go.WideMaps

theorem BoP.keepG {w0 w w' : World} {t r n g : Nat} {F : List En} {cs : Array Value} (h : BoP w0 w t r F n) (f : Fr (at' g) w w') (rg : Row w g cs 33) (hg : w0.heap.size ≤ g) : BoP w0 w' t r F n := by
  obtain ⟨T, q, L, ro, h1, h2, h3, h4, h5⟩ := h.ex
  refine ⟨⟨T, q, L, ro, h1.keep f (fun k hk e => ?_), h2, h3, h4.keep f (fun k hk e => ?_), h5⟩, h.wf, h.ln, fr_high h.fr f (fun k e => by rw [show k = g from e]; exact hg)⟩
  · rw [show k = g from e] at hk
    exact ts_kind h1 rg (by decide) (by decide) hk
  · rw [show k = g from e] at hk
    exact ref_kind rg (by decide) (by decide) (by decide) (h4.kinds g hk)

theorem rfs_size {w : World} {B : Nat} {v : Value} {l : List Rf} (h : RfS w B v l) : (l = [] ∧ v = .slice none 0 0) ∨ ∃ g cap cs, v = .slice (some ⟨g, 0, none⟩) l.length cap ∧ B ≤ g ∧ Row w g cs 33 ∧ 2 * l.length ≤ cs.size := by
  rcases h with h | ⟨g, cap, cs, h1, hb, h2, h3, h4, h5⟩
  · exact Or.inl h
  · refine Or.inr ⟨g, cap, cs, h1, hb, h4, ?_⟩
    by_cases e : l.length = 0
    · omega
    · obtain ⟨m, hm⟩ : ∃ m, l.length = m + 1 := ⟨l.length - 1, by omega⟩
      have := (h5 m l[m] (List.getElem?_eq_getElem (by omega))).c1
      have := (Array.getElem?_eq_some_iff.1 this).1
      omega

set_option maxRecDepth 100000 in
set_option maxHeartbeats 2000000 in
theorem lplays_any (a0 : Option Addr) (len cap : Nat) (w : World) (hl : len ≤ 9223372036854775807) (hA : ∃ A, Acs w a0 len A) :
    Calls Try.prog 3 #[.slice a0 len cap] w fun e w' => e = .returned (.bool true) ∧ Below w.heap.size w w' := by
  obtain ⟨A, hA⟩ := hA
  have HA : Hid (Acs w a0 len A) := ⟨hA⟩
  clear hA
  go_enter Try.func3, Try.ntmps3
  go_wp2_with fail
  refine (awake_any _).mono ?_
  rintro e w1 ⟨rfl, f0⟩
  have HF0 : Hid _ := ⟨f0⟩
  clear f0
  go_wp2_with fail
  refine (new_any w1).mono ?_
  rintro e w2 ⟨t, T, rfl, hT, hY, f1, n1⟩
  have hB : BoP w (w2.alloc (.cells #[.slice none 0 0, .slice none 0 0] 30)) t w2.heap.size [] 0 := by
    have f2 : Fr none' w2 (w2.alloc (.cells #[.slice none 0 0, .slice none 0 0] 30)) := (Fr.refl none' w2).alloc _
    refine ⟨⟨T, ⟨.slice none 0 0, fun _ => .slice none 0 0, .slice none 0 0⟩, [], [], hT.keep0 f2, by simp [Tr.F, hY], fun k hk => Nat.le_trans HF0.out.size (n1 k hk), ?_, rel_nil, by simp⟩, wf_nil, by simp, (HF0.out.trans f1).trans f2⟩
    exact ⟨row_alloc w2 _ _, ownk_nil _ _ _ _, ks_nil _ _, fun i o hi => by simp at hi, Nat.le_trans HF0.out.size f1.size, by simp⟩
  have HB : Hid _ := ⟨hB⟩
  clear hB hT hY f1 n1 HF0
  go_wp2_with fail
  generalize (w2.alloc (.cells #[.slice none 0 0, .slice none 0 0] 30)) = v at *
  generalize w2.heap.size = r at *
  go_loopw [6] (fun i wr => ∃ k : Nat, k ≤ len ∧ k ≤ 120 ∧ i = .int .i64 (k : Int) ∧ Hid (∃ F, BoP w wr t r F k)) (fun i _ => 120 - (intOf i).toNat)
  case atStart => exact ⟨0, by omega, by omega, rfl, ⟨_, HB.out⟩⟩
  case round =>
    clear HB
    obtain ⟨k, hk, hk2, rfl, hb⟩ := hrel
    obtain ⟨F0, hB⟩ := hb.out
    by_cases hlt : k < len
    · by_cases hlt2 : k < 120
      · obtain ⟨b, o, rfl, ak, ok⟩ := (HA.out.keep hB.fr) k hlt
        have i1 : 0 ≤ (k : Int) ∧ (k : Int) < (len : Int) := by omega
        have uk1 : decide ((k : Int) < (len : Int)) = true := decide_eq_true (by omega)
        have uk2 : decide ((k : Int) < 120) = true := decide_eq_true (by omega)
        have c0 : wr.cell? ⟨b, o + k * 5, none⟩ = some (.int .i64 (A k).op) := ak 0 (by omega)
        have c1 : wr.cell? ⟨b, o + k * 5 + 1, none⟩ = some (.int .i64 (A k).a.n) := ak 1 (by omega)
        have c2 : wr.cell? ⟨b, o + k * 5 + 2, none⟩ = some (.int .i64 (A k).a.i) := ak 2 (by omega)
        have c3 : wr.cell? ⟨b, o + k * 5 + 3, none⟩ = some (.int .i64 (A k).b.n) := ak 3 (by omega)
        have c4 : wr.cell? ⟨b, o + k * 5 + 4, none⟩ = some (.int .i64 (A k).b.i) := ak 4 (by omega)
        have hD := dop_any w wr t r k F0 hB (by omega) (A k) ok
        unfold acV at hD
        have HO : Hid (OkA (A k)) := ⟨ok⟩
        clear ok ak hB hb
        go_wp2_with fail
        refine hD.mono ?_
        rintro e w3 ⟨rfl, hB3⟩
        obtain ⟨F, hF⟩ : ∃ F, F = stepF F0 (A k) := ⟨_, rfl⟩
        rw [← hF] at hB3
        clear hF
        have HB : Hid (BoP w w3 t r F (k + 1)) := ⟨hB3⟩
        have hFl := hB3.ln
        clear hB3 hD c0 c1 c2 c3 c4
        go_wp2_with fail
        refine (plist _ _ t F (HB.out.pr (by omega))).mono ?_
        rintro e w4 ⟨va, rfl, sa, f4⟩
        have H4 : Hid (Fr none' w3 w4) := ⟨f4⟩
        obtain ⟨aa, ca, rfl⟩ := sa.slice
        have SA : Hid (RfS w4 w3.heap.size _ (F.map (·.a))) := ⟨sa⟩
        clear sa f4
        rw [List.length_map] at SA ⊢
        obtain ⟨N, hN⟩ : ∃ N, N = F.length := ⟨_, rfl⟩
        have HN : Hid (N = F.length) := ⟨hN⟩
        rw [← hN] at SA hFl ⊢
        clear hN
        go_wp2_with fail
        refine ((HB.out.keep0 H4.out).qlist (by omega)).mono ?_
        rintro e w5 ⟨vb, rfl, sb, f5⟩
        have H5 : Hid (Fr none' w3 w5) := ⟨H4.out.trans f5⟩
        obtain ⟨ab, cb, rfl⟩ := sb.slice
        rw [List.length_map, ← HN.out] at sb ⊢
        replace SA : Hid (RfS w5 w3.heap.size _ (F.map (·.a))) := ⟨SA.out.keep0 f5⟩
        have hR := refs_any w5 _ _ _ _ _ _ SA.out sb (by rw [List.length_map, ← HN.out]; omega)
        rw [decide_eq_true (rfl : F.map (·.a) = F.map (·.a))] at hR
        clear f5 H4
        go_wp2_with fail
        refine hR.mono ?_
        rintro e w6 ⟨rfl, f6⟩
        have H6 : Hid (Fr none' w3 w6) := ⟨H5.out.trans f6⟩
        replace SA : Hid (RfS w6 w3.heap.size _ (F.map (·.a))) := ⟨SA.out.keep0 f6⟩
        clear f6 hR sb H5
        have HX : Hid (∀ w', Fr none' w3 w' → w'.cell? ⟨b, o + k * 5 + 1, none⟩ = some (.int .i64 (A k).a.n) ∧ w'.cell? ⟨b, o + k * 5 + 2, none⟩ = some (.int .i64 (A k).a.i) ∧ w'.cell? ⟨b, o + k * 5 + 3, none⟩ = some (.int .i64 (A k).b.n) ∧ w'.cell? ⟨b, o + k * 5 + 4, none⟩ = some (.int .i64 (A k).b.i)) := ⟨fun w' f => by
          obtain ⟨b', o', e, ak, _⟩ := (HA.out.keep (HB.out.fr.trans f)) k hlt
          simp only [Option.some.injEq, Addr.mk.injEq, and_true] at e
          obtain ⟨rfl, rfl⟩ := e
          exact ⟨ak 1 (by omega), ak 2 (by omega), ak 3 (by omega), ak 4 (by omega)⟩⟩
        generalize hxa : (A k).a.n = xan at HX
        generalize hxb : (A k).a.i = xai at HX
        generalize hya : (A k).b.n = xbn at HX
        generalize hyb : (A k).b.i = xbi at HX
        have HO2 : Hid (Rf.Ok ⟨xan, xai⟩ ∧ Rf.Ok ⟨xbn, xbi⟩) := ⟨by rw [← hxa, ← hxb]; exact HO.out.a, by rw [← hya, ← hyb]; exact HO.out.b⟩
        clear hxa hxb hya hyb HO
        have hB := asks_any w w6.drew t r (k + 1) F (HB.out.keep0 (H6.out.trans (Fr.refl none' w6).drew)) (by omega) ⟨xan, xai⟩ ⟨xbn, xbi⟩ HO2.out.1 HO2.out.2
        dsimp only at hB
        obtain ⟨c1, c2, c3, c4⟩ := HX.out w6 H6.out
        go_wp2_with fail
        go_region_held3 (fun w' => w'.cell? ⟨b, o + k * 5 + 1, none⟩ = some (.int .i64 xan) ∧ w'.cell? ⟨b, o + k * 5 + 2, none⟩ = some (.int .i64 xai) ∧ w'.cell? ⟨b, o + k * 5 + 3, none⟩ = some (.int .i64 xbn) ∧ w'.cell? ⟨b, o + k * 5 + 4, none⟩ = some (.int .i64 xbi)) (first | with_reducible exact ⟨c1, c2, c3, c4⟩ | with_reducible exact ⟨x1, x2, x3, x4⟩ | go_keep) (first | (go_at_call 10; refine hB.mono ?_; rintro e w7 ⟨rfl, f7⟩; (replace f7 := (Fr.refl none' w6).drew.trans f7); (obtain ⟨x1, x2, x3, x4⟩ := HX.out w7 (H6.out.trans f7))))
        clear c1 c2 c3 c4 hB
        have H7 : Hid (Fr none' w3 w7) := ⟨H6.out.trans f7⟩
        replace SA : Hid (RfS w7 w3.heap.size _ (F.map (·.a))) := ⟨SA.out.keep0 f7⟩
        clear f7 H6
        have hB := asks_any w w7.drew t r (k + 1) F (HB.out.keep0 (H7.out.trans (Fr.refl none' w7).drew)) (by omega) ⟨xbn, xbi⟩ ⟨xan, xai⟩ HO2.out.2 HO2.out.1
        dsimp only at hB
        go_wp2_with fail
        go_region_held3 (fun w' => w'.cell? ⟨b, o + k * 5 + 1, none⟩ = some (.int .i64 xan) ∧ w'.cell? ⟨b, o + k * 5 + 2, none⟩ = some (.int .i64 xai) ∧ w'.cell? ⟨b, o + k * 5 + 3, none⟩ = some (.int .i64 xbn) ∧ w'.cell? ⟨b, o + k * 5 + 4, none⟩ = some (.int .i64 xbi)) (first | with_reducible exact ⟨x1, x2, x3, x4⟩ | with_reducible exact ⟨y1, y2, y3, y4⟩ | go_keep) (first | (go_at_call 10; refine hB.mono ?_; rintro e w8 ⟨rfl, f8⟩; (replace f8 := (Fr.refl none' w7).drew.trans f8); (obtain ⟨y1, y2, y3, y4⟩ := HX.out w8 (H7.out.trans f8))))
        have HB8 : Hid (BoP w w8 t r F (k + 1)) := ⟨HB.out.keep0 (H7.out.trans f8)⟩
        replace SA : Hid (RfS w8 w3.heap.size _ (F.map (·.a))) := ⟨SA.out.keep0 f8⟩
        have hg3 : Hid (w.heap.size ≤ w3.heap.size) := ⟨HB.out.fr.size⟩
        clear x1 x2 x3 x4 y1 y2 y3 y4 hB f8 H7 HX HO2 HB
        rcases rfs_size SA.out with ⟨hnil, hv⟩ | ⟨g, cap', cs, hv, hg, rg, hsz⟩
        · simp only [Value.slice.injEq] at hv
          obtain ⟨rfl, hl0, rfl⟩ := hv
          have hN0 : N = 0 := by rw [HN.out, List.map_eq_nil_iff.1 hnil]; rfl
          rw [hN0]
          clear hl0 hnil SA hFl hN0 HN
          go_wp2_with fail
          go_loopw [13] (fun i wr => i = .int .i64 0 ∧ wr = w8) (fun _ _ => 0)
          case atStart => exact ⟨rfl, rfl⟩
          case round =>
            obtain ⟨rfl, rfl⟩ := hrel
            go_wp2_with fail
            go_roundw
            case rel => exact ⟨k + 1, by omega, by omega, by go_num, ⟨F, HB8.out⟩⟩
            case measure => simp [intOf]; omega
        · simp only [Value.slice.injEq] at hv
          obtain ⟨rfl, hlN, rfl⟩ := hv
          have RG : Hid (Row w8 g cs 33 ∧ w.heap.size ≤ g) := ⟨rg, Nat.le_trans hg3.out hg⟩
          rw [List.length_map, ← HN.out] at hsz
          clear SA rg hg hlN HN
          go_wp2_with fail
          go_loopw [13] (fun i wr => ∃ j : Nat, j ≤ N ∧ i = .int .i64 (j : Int) ∧ Hid (Fr (at' g) w8 wr ∧ ∃ cs', Row wr g cs' 33 ∧ 2 * N ≤ cs'.size)) (fun i _ => N - (intOf i).toNat)
          case atStart => exact ⟨0, by omega, rfl, ⟨Fr.refl _ _, cs, RG.out.1, hsz⟩⟩
          case round =>
            obtain ⟨j, hj, rfl, hI⟩ := hrel
            by_cases hjN : j < N
            · obtain ⟨fI, cs', rI, hs⟩ := hI.out
              have uk : decide ((j : Int) < (N : Int)) = true := decide_eq_true (by omega)
              have i2 : 0 ≤ (j : Int) ∧ (j : Int) < (N : Int) := by omega
              have y0 := rI.cell (j * 2)
              have y1 := rI.cell (j * 2 + 1)
              rw [Array.getElem?_eq_getElem (by omega)] at y0 y1
              have z0 := rI.frozen (j * 2)
              have z1 := rI.frozen (j * 2 + 1)
              have HI : Hid (Fr (at' g) w8 ((wr.setCell ⟨g, j * 2, none⟩ (.int .i64 (-1))).setCell ⟨g, j * 2 + 1, none⟩ (.int .i64 0)) ∧ ∃ cs', Row ((wr.setCell ⟨g, j * 2, none⟩ (.int .i64 (-1))).setCell ⟨g, j * 2 + 1, none⟩ (.int .i64 0)) g cs' 33 ∧ 2 * N ≤ cs'.size) := ⟨(fI.setCell (p := ⟨g, j * 2, none⟩) (Or.inr rfl) _).setCell (p := ⟨g, j * 2 + 1, none⟩) (Or.inr rfl) _, _, (rI.setCell (j * 2) (.int .i64 (-1))).setCell (j * 2 + 1) (.int .i64 0), by simpa using hs⟩
              generalize cs'[j * 2] = q0 at *
              generalize cs'[j * 2 + 1] = q1 at *
              clear hI fI rI hs
              go_wp2_with fail
              go_roundw
              case rel => exact ⟨j + 1, by omega, by go_num, HI⟩
              case measure => simp [intOf]; omega
            · obtain rfl : j = N := by omega
              have uk : decide ((j : Int) < (j : Int)) = false := decide_eq_false (by omega)
              have HB9 : Hid (BoP w wr t r F (k + 1)) := ⟨HB8.out.keepG hI.out.1 RG.out.1 RG.out.2⟩
              clear hI
              go_wp2_with fail
              go_roundw
              case rel => exact ⟨k + 1, by omega, by omega, by go_num, ⟨F, HB9.out⟩⟩
              case measure => simp [intOf]; omega
      · obtain rfl : k = 120 := by omega
        have uk1 : decide (((120 : Nat) : Int) < (len : Int)) = true := decide_eq_true (by omega)
        have uk1' : decide ((120 : Int) < (len : Int)) = true := decide_eq_true (by omega)
        have HE : Hid (Fr none' w wr) := ⟨hB.fr⟩
        clear hb hB
        go_wp2_with fail
        go_ret
        exact ⟨rfl, HE.out.below (Nat.le_refl _) (fun _ h => h.elim)⟩
    · obtain rfl : k = len := by omega
      have uk1 : decide ((k : Int) < (k : Int)) = false := decide_eq_false (by omega)
      have HE : Hid (Fr none' w wr) := ⟨hB.fr⟩
      clear hb hB
      go_wp2_with fail
      go_ret
      exact ⟨rfl, HE.out.below (Nat.le_refl _) (fun _ h => h.elim)⟩

end Go.Proofs.Ytjopmhidldemmaa
