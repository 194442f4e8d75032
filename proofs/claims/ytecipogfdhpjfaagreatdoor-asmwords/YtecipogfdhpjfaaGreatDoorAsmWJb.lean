/-
  What viceroyref06's read needs: its plain side and its tokens by cells. No statement is proved here.
-/
import Derived.Test.YtecipogfdhpjfaaGreatDoorAsmDefs
import Derived.Test.YtecipogfdhpjfaaGreatDoorAsmWJa
/- AsmCutP -/
namespace Go.Proofs.YtecipogfdhpjfaaGreatDoor
open Go.RowKit

theorem kc_flush_nil (l : List Tok) (ok : Bool) : flush ⟨l, [], ok⟩ = ⟨l, [], ok⟩ := by simp [flush]
theorem kc_flush_w (x : Cut) : (flush x).w = [] := by
  unfold flush
  split
  · assumption
  · split <;> rfl
theorem kc_flush_flush (x : Cut) : flush (flush x) = flush x := by
  have h := kc_flush_w x
  generalize flush x = y at h ⊢
  obtain ⟨l, w, ok⟩ := y
  subst h
  exact kc_flush_nil l ok
theorem kc_step_flush (x : Cut) (c : UInt8) (h : isWrd c = false) : stepC x c = stepC (flush x) c := by
  unfold stepC
  simp only [h, Bool.false_eq_true, if_false, kc_flush_flush]

/-- The rest of a line, from where its reading stands. -/
def runC (s : List UInt8) (x : Cut) : Cut := flush ((code s).foldl stepC x)
theorem cutC_run (s : List UInt8) : cutC s = runC s ⟨[], [], true⟩ := rfl
theorem kc_code_cons (c : UInt8) (s : List UInt8) : code (c :: s) = if c = 59 then [] else c :: code s := by
  unfold code
  rw [List.takeWhile_cons]
  by_cases h : c = 59
  · rw [if_pos h, h]; rfl
  · rw [if_neg h, if_pos (by simpa using h)]
theorem runC_nil (x : Cut) : runC [] x = flush x := rfl
theorem runC_rem (s : List UInt8) (x : Cut) : runC (59 :: s) x = flush x := by
  unfold runC
  rw [kc_code_cons, if_pos rfl]
  rfl
theorem runC_cons {c : UInt8} (s : List UInt8) (x : Cut) (h : c ≠ 59) : runC (c :: s) x = runC s (stepC x c) := by
  unfold runC
  rw [kc_code_cons, if_neg h]
  rfl
theorem kc_wrd_not {c : UInt8} (h : isWrd c = true) : c ≠ 59 := by
  rintro rfl
  exact absurd h (by decide)
theorem runC_words : ∀ (u s : List UInt8) (x : Cut), (∀ c ∈ u, isWrd c = true) → runC (u ++ s) x = runC s ⟨x.l, x.w ++ u, x.ok⟩
  | [], s, x, _ => by rw [List.nil_append, List.append_nil]
  | c :: u, s, x, h => by
    have hc := h c (by simp)
    rw [List.cons_append, runC_cons _ _ (kc_wrd_not hc), runC_words u s _ (fun d hd => h d (by simp [hd]))]
    unfold stepC
    rw [if_pos hc]
    simp
theorem runC_flush (s : List UInt8) (x : Cut) (h : ∀ c, s.head? = some c → isWrd c = false) : runC s x = runC s (flush x) := by
  cases s with
  | nil => rw [runC_nil, runC_nil, kc_flush_flush]
  | cons c s =>
    by_cases e : c = 59
    · subst e
      rw [runC_rem, runC_rem, kc_flush_flush]
    · rw [runC_cons _ _ e, runC_cons _ _ e, kc_step_flush x c (h c rfl)]
theorem runC_sgn {c : UInt8} (s : List UInt8) (l : List Tok) (ok : Bool) (hw : isWrd c = false) (h : isSgn c = true) : runC (c :: s) ⟨l, [], ok⟩ = runC s ⟨l ++ [Tok.sg c], [], ok⟩ := by
  have e : c ≠ 59 := by rintro rfl; exact absurd h (by decide)
  rw [runC_cons _ _ e]
  unfold stepC
  rw [if_neg (by simp [hw]), if_pos h, kc_flush_nil]
theorem runC_blank (s : List UInt8) (l : List Tok) (ok : Bool) : runC (32 :: s) ⟨l, [], ok⟩ = runC s ⟨l, [], ok⟩ := by
  rw [runC_cons _ _ (by decide)]
  unfold stepC
  rw [if_neg (by decide), if_neg (by decide), if_pos rfl, kc_flush_nil]
theorem kc_flush_false {x : Cut} (h : x.ok = false) : (flush x).ok = false := by
  unfold flush
  split
  · exact h
  · split
    · exact h
    · rfl
theorem kc_step_false {x : Cut} (h : x.ok = false) (c : UInt8) : (stepC x c).ok = false := by
  have hf := kc_flush_false h
  unfold stepC
  repeat' split
  · exact h
  · exact hf
  · exact hf
  · rfl
theorem runC_false : ∀ (s : List UInt8) (x : Cut), x.ok = false → (runC s x).ok = false
  | [], x, h => kc_flush_false h
  | c :: s, x, h => by
    by_cases e : c = 59
    · subst e; rw [runC_rem]; exact kc_flush_false h
    · rw [runC_cons _ _ e]; exact runC_false s _ (kc_step_false h c)
theorem runC_bad {c : UInt8} (s : List UInt8) (x : Cut) (hw : isWrd c = false) (hs : isSgn c = false) (h32 : c ≠ 32) (h59 : c ≠ 59) : (runC (c :: s) x).ok = false := by
  rw [runC_cons _ _ h59]
  apply runC_false
  unfold stepC
  rw [if_neg (by simp [hw]), if_neg (by simp [hs]), if_neg h32]
/-- A whole word. -/
theorem runC_run (u s : List UInt8) (l : List Tok) (ok : Bool) (hu : u ≠ []) (hw : ∀ c ∈ u, isWrd c = true) (hs : ∀ c, s.head? = some c → isWrd c = false) :
    (∀ t, wordT u = some t → runC (u ++ s) ⟨l, [], ok⟩ = runC s ⟨l ++ [t], [], ok⟩) ∧ (wordT u = none → runC (u ++ s) ⟨l, [], ok⟩ = runC s ⟨l, [], false⟩) := by
  have e : runC (u ++ s) ⟨l, [], ok⟩ = runC s (flush ⟨l, u, ok⟩) := by
    rw [runC_words u s _ hw, runC_flush s _ hs]
    rfl
  refine ⟨fun t ht => ?_, fun ht => ?_⟩
  · rw [e]
    unfold flush
    rw [if_neg hu, ht]
  · rw [e]
    unfold flush
    rw [if_neg hu, ht]

end Go.Proofs.YtecipogfdhpjfaaGreatDoor

/- AsmRefF -/
namespace Go.Proofs.YtecipogfdhpjfaaGreatDoor
open Go.RowKit

theorem wordly_ref (c : UInt8) (w : World) : Calls Tryz.prog 26 #[.int .u8 (c.toNat : Int)] w fun e w' => e = .returned (.bool (isWrd c)) ∧ w' = w := by
  have := wordly_q (c.toNat : Int) w
  have e : ((decide (48 ≤ ((c.toNat : Nat) : Int)) && decide (((c.toNat : Nat) : Int) ≤ 57)) || (decide (97 ≤ ((c.toNat : Nat) : Int)) && decide (((c.toNat : Nat) : Int) ≤ 122)) || (((c.toNat : Nat) : Int) == 95)) = isWrd c := by
    unfold isWrd isDig
    congr 1
    · congr 1
      · congr 1 <;> simp <;> omega
      · congr 1 <;> simp <;> omega
    · by_cases h : c = 95
      · subst h; rfl
      · have h1 : (c == 95) = false := by simpa using h
        rw [h1]
        have h2 : c.toNat ≠ 95 := fun e => h (UInt8.toNat_inj.1 e)
        simp
        omega
  rw [e] at this
  exact this

/-- The three cells of a token. -/
def tokC : Tok → List Value
  | .sg c => [.int .i64 1, .string ⟨[c].toArray⟩, .int .i64 0]
  | .num n => [.int .i64 2, .string ⟨#[]⟩, .int .i64 (n : Int)]
  | .reg n => [.int .i64 3, .string ⟨#[]⟩, .int .i64 (n : Int)]
  | .nm s => [.int .i64 4, .string ⟨s.toArray⟩, .int .i64 0]
theorem tokC_len (t : Tok) : (tokC t).length = 3 := by cases t <;> rfl
theorem tokR_C (t : Tok) : tokR t = .agg (tokC t).toArray := by cases t <;> rfl
def flatT (l : List Tok) : List Value := l.flatMap tokC
theorem flatT_add (l : List Tok) (t : Tok) : flatT (l ++ [t]) = flatT l ++ tokC t := by simp [flatT]
theorem info_tok6 : (Tryz.prog.info? 75).map (fun i => (i.zero, i.size, i.bytes)) = some (some (.agg #[.int .i64 0, .string ⟨#[]⟩, .int .i64 0]), 3, 32) := by kernel_rfl

/-- Tokens of the call's own. -/
def TkS (w : World) (B : Nat) (v : Value) (l : List Tok) : Prop := OwnK 75 3 w B v l.length (flatT l)

theorem append_tok6 (w : World) (B g : Nat) (v : Value) (n : Nat) (K : List Value) (x0 x2 : Int) (x1 : ByteArray) (hb : B ≤ w.heap.size) (ho : OwnK 75 3 w B v n K) (hn : n < 1000000) (r : Row w g #[.int .i64 x0, .string x1, .int .i64 x2] 75) :
    ∃ v' w', (Builtin.append_ #[42, 42] 42 #[v, .slice (some ⟨g, 0, none⟩) 1 1]).run Tryz.prog w = .ok v' w' ∧ Fr (fun q => some q = v.ownBlock) w w' ∧ OwnK 75 3 w' B v' (n + 1) (K ++ [.int .i64 x0, .string x1, .int .i64 x2]) :=
  append_k (T := 42) Tryz.underlying42 info_tok6 rfl (by omega) (by omega) w B ⟨g, 0, none⟩ v n K [.int .i64 x0, .string x1, .int .i64 x2] hb ho (by omega) rfl (fun j u hu => by
    rw [add_lit', Nat.zero_add, r.cell]
    match j, hu with
    | 0, hu => simpa using hu
    | 1, hu => simpa using hu
    | 2, hu => simpa using hu
    | j + 3, hu => simp at hu) (fun u hu => by simp at hu; rcases hu with rfl | rfl | rfl <;> rfl)

theorem ssub_run (s : ByteArray) (i j : Nat) (hij : i ≤ j) (hj : j ≤ s.size) : ∃ t : ByteArray, t.data.toList = (s.data.toList.drop i).take (j - i) ∧ t.size = j - i ∧ ∀ w, (Instr.sliceAt 9 (.string s) (some (.int .i64 (i : Int))) (some (.int .i64 (j : Int))) none).run Tryz.prog w = .ok (.string t) w := by
  refine ⟨s.extract i j, ?_, ?_, fun w => ?_⟩
  · rw [Lib.extract_data]
  · rw [ByteArray.size_extract]; omega
  · rw [run_sliceAt_string w 9 _ _ _ _ Tryz.underlying9, run_slice_string w 9 s .i64 .i64 (i : Int) (j : Int) Tryz.underlying9 (by omega) (by omega) (by omega)]
    rw [show ((i : Int)).toNat = i by omega, show ((j : Int)).toNat = j by omega]

end Go.Proofs.YtecipogfdhpjfaaGreatDoor

/- AsmRefG -/
namespace Go.Proofs.YtecipogfdhpjfaaGreatDoor
open Go.RowKit

/-- Where cut stands: at j, with a list that holds the tokens so far, if nothing was none. -/
structure CutAt (w wr : World) (s : ByteArray) (j : Nat) (f : Bool) (v : Value) : Prop where
  fr : Fr none' w wr
  ex : ∃ (L : List Tok) (K : List Value) (n : Nat), OwnK 75 3 wr w.heap.size v n K ∧ n ≤ j ∧ (f = true → n = L.length ∧ K = flatT L) ∧ cutC s.data.toList = runC (s.data.toList.drop j) ⟨L, [], f⟩

theorem CutAt.keep {w wr wr' : World} {s : ByteArray} {j : Nat} {f : Bool} {v : Value} (h : CutAt w wr s j f v) (k : Fr none' wr wr') : CutAt w wr' s j f v := by
  obtain ⟨L, K, n, h1, h2⟩ := h.ex
  exact ⟨h.fr.trans k, L, K, n, h1.keep0 k, h2⟩

/-- The end: what is told. -/
theorem CutAt.end {w wr : World} {s : ByteArray} {j : Nat} {f : Bool} {v : Value} (h : CutAt w wr s j f v) (he : s.data.toList.drop j = [] ∨ (s.data.toList.drop j).head? = some 59) : f = (cutC s.data.toList).ok ∧ (f = true → TkS wr w.heap.size v (cutC s.data.toList).l) := by
  obtain ⟨L, K, n, h1, h2, h3, h4⟩ := h.ex
  have e : cutC s.data.toList = ⟨L, [], f⟩ := by
    rw [h4]
    rcases he with he | he
    · rw [he, runC_nil, kc_flush_nil]
    · cases hd : s.data.toList.drop j with
      | nil => rw [hd] at he; cases he
      | cons c r =>
        rw [hd] at he
        cases he
        rw [runC_rem, kc_flush_nil]
  rw [e]
  refine ⟨rfl, fun hf => ?_⟩
  obtain ⟨a, b⟩ := h3 hf
  subst a b
  exact h1
/-- A blank. -/
theorem CutAt.blank {w wr : World} {s : ByteArray} {j : Nat} {f : Bool} {v : Value} (h : CutAt w wr s j f v) (hc : s.data.toList.drop j = 32 :: s.data.toList.drop (j + 1)) : CutAt w wr s (j + 1) f v := by
  obtain ⟨L, K, n, h1, h2, h3, h4⟩ := h.ex
  exact ⟨h.fr, L, K, n, h1, by omega, h3, by rw [h4, hc, runC_blank]⟩
/-- One token more. -/
theorem CutAt.tok {w wr W : World} {s : ByteArray} {j m g : Nat} {f b : Bool} {v : Value} {x0 x2 : Int} {x1 : ByteArray} (h : CutAt w wr s j f v) (k : Fr none' wr W) (hj : j < 1000000) (hm : j < m) (r : Row W g #[.int .i64 x0, .string x1, .int .i64 x2] 75)
    (hb : ∀ L, f = true → b = true → ∃ t, tokC t = [.int .i64 x0, .string x1, .int .i64 x2] ∧ runC (s.data.toList.drop j) ⟨L, [], true⟩ = runC (s.data.toList.drop m) ⟨L ++ [t], [], true⟩) (hn : ∀ L, ∃ L', (f && b) = false → runC (s.data.toList.drop j) ⟨L, [], f⟩ = runC (s.data.toList.drop m) ⟨L', [], false⟩) :
    ∃ v' w', (Builtin.append_ #[42, 42] 42 #[v, .slice (some ⟨g, 0, none⟩) 1 1]).run Tryz.prog W = .ok v' w' ∧ CutAt w w' s m (f && b) v' := by
  obtain ⟨L, K, n, h1, h2, h3, h4⟩ := h.ex
  have o1 := h1.keep0 k
  obtain ⟨v', w', g1, g2, g3⟩ := append_tok6 W w.heap.size g v n K x0 x2 x1 (h.fr.trans k).size o1 (by omega) r
  refine ⟨v', w', g1, (h.fr.trans k).ownK g2 o1, ?_⟩
  cases hf : f && b with
  | true =>
    simp only [Bool.and_eq_true] at hf
    obtain ⟨rfl, rfl⟩ := hf
    obtain ⟨a, e⟩ := h3 rfl
    obtain ⟨t, ht, hr⟩ := hb L rfl rfl
    refine ⟨L ++ [t], K ++ [.int .i64 x0, .string x1, .int .i64 x2], n + 1, g3, by omega, fun _ => ⟨by rw [a]; simp, by rw [e, flatT_add, ht]⟩, ?_⟩
    rw [h4, hr]
  | false =>
    obtain ⟨L', hL'⟩ := hn L
    refine ⟨L', K ++ [.int .i64 x0, .string x1, .int .i64 x2], n + 1, g3, by omega, fun e => (by cases e), ?_⟩
    rw [h4, hL' hf]

-- WALK
set_option maxRecDepth 100000 in
set_option maxHeartbeats 4000000 in
theorem cut_ref (s : ByteArray) (hb : s.size ≤ 5000) (w : World) : Calls Tryz.prog 14 #[.string s] w fun e w' => ∃ v b, e = .returned (.tuple #[v, .bool b]) ∧ Fr none' w w' ∧ b = (cutC s.data.toList).ok ∧ (b = true → TkS w' w.heap.size v (cutC s.data.toList).l) := by
  obtain ⟨n, hn⟩ : ∃ n, s.size = n := ⟨_, rfl⟩
  rw [hn] at hb
  have hsl : s.data.toList.length = n := by rw [Array.length_toList]; exact hn
  have HSL := hid' hsl
  have HC := hid' (show CutAt w w s 0 true (.slice none 0 0) from ⟨Fr.refl _ _, [], [], 0, ⟨⟨by simp, Or.inl ⟨rfl, rfl⟩⟩, fun _ => rfl⟩, Nat.le_refl _, fun _ => ⟨rfl, rfl⟩, rfl⟩)
  clear hsl
  go_enter Tryz.func14, Tryz.ntmps14
  go_wp2_with fail
  go_loopw [4, 5, 6] (fun v f i wr => ∃ (j : Nat) (b : Bool), j ≤ n ∧ i = .int .i64 (j : Int) ∧ f = .bool b ∧ Hid (CutAt w wr s j b v)) (fun _ _ i _ => n - (intOf i).toNat)
  case atStart => exact ⟨0, true, by omega, rfl, rfl, HC⟩
  case round =>
    clear HC
    obtain ⟨j, b, hj, rfl, rfl, HC⟩ := hrel
    by_cases hlt : j < n
    · have u1 : decide ((j : Int) < (n : Int)) = true := decide_eq_true (by omega)
      have u2 : decide (j < n) = true := decide_eq_true hlt
      obtain ⟨c, hc⟩ : ∃ c, s.data.toList[j]? = some c := ⟨_, List.getElem?_eq_getElem (by rw [HSL.out]; exact hlt)⟩
      have hd : s.data.toList.drop j = c :: s.data.toList.drop (j + 1) := by
        have hk' : j < s.data.toList.length := by rw [HSL.out]; exact hlt
        rw [List.drop_eq_getElem_cons hk']
        rw [List.getElem?_eq_getElem hk'] at hc
        rw [Option.some.inj hc]
      obtain ⟨q, hq⟩ : ∃ q, c.toNat = q := ⟨_, rfl⟩
      have hij : ∀ w, (Instr.index 9 (.string s) (.int .i64 (j : Int))).run Tryz.prog w = .ok (.int .u8 (q : Int)) w := fun w => sidx_run s j c hc (q : Int) (by rw [hq]) w
      by_cases h59 : c = 59
      · subst h59
        have hq' : q = 59 := by rw [← hq]; rfl
        subst hq'
        have HE := hid' (HC.out.end (Or.inr (by rw [hd]; rfl)))
        have HFr := hid' HC.out.fr
        clear hd hc HC
        go_wp2_with fail
        refine bodyPost_ret (results_tmp2 rfl _ _ _) rfl ?_
        exact ⟨_, b, rfl, HFr.out, HE.out.1, HE.out.2⟩
      · have t59 : ((q : Int) != 59) = true := by
          rw [bne_iff_ne]; intro e; exact h59 (UInt8.toNat_inj.1 (by show c.toNat = 59; omega))
        have HW := fun w => wordly_ref c w
        rw [hq] at HW
        go_wp2_with fail
        refine (HW _).mono ?_
        rintro e w1 ⟨rfl, rfl⟩
        clear HW
        cases hw : isWrd c with
        | true =>
          have HST := hid' (show ∃ d, s.data.toList[j]? = some d ∧ isWrd d = true from ⟨c, hc, hw⟩)
          clear hd hc hij
          go_wp2_with fail
          go_loopw [9] (fun x wq => ∃ m : Nat, j ≤ m ∧ m ≤ n ∧ x = .int .i64 (m : Int) ∧ wq = w1 ∧ Hid (∀ k, j ≤ k → k < m → ∃ d, s.data.toList[k]? = some d ∧ isWrd d = true)) (fun x _ => n - (intOf x).toNat)
          case atStart => exact ⟨j, Nat.le_refl _, by omega, rfl, rfl, hid' (fun k h1 h2 => by omega)⟩
          case round =>
            obtain ⟨m, hjm, hmn, rfl, rfl, HALL⟩ := hrel
            by_cases hltm : m < n
            · have v1 : decide ((m : Int) < (n : Int)) = true := decide_eq_true (by omega)
              have v2 : decide (m < n) = true := decide_eq_true hltm
              obtain ⟨d, hdd⟩ : ∃ d, s.data.toList[m]? = some d := ⟨_, List.getElem?_eq_getElem (by rw [HSL.out]; exact hltm)⟩
              obtain ⟨y, hy⟩ : ∃ y, d.toNat = y := ⟨_, rfl⟩
              have him : ∀ w, (Instr.index 9 (.string s) (.int .i64 (m : Int))).run Tryz.prog w = .ok (.int .u8 (y : Int)) w := fun w => sidx_run s m d hdd (y : Int) (by rw [hy]) w
              have HW := fun w => wordly_ref d w
              rw [hy] at HW
              cases hwd : isWrd d with
              | true =>
                rw [hwd] at HW
                have HALL2 := hid' (show ∀ k, j ≤ k → k < m + 1 → ∃ d, s.data.toList[k]? = some d ∧ isWrd d = true from fun k h1 h2 => by
                  by_cases e : k < m
                  · exact HALL.out k h1 e
                  · obtain rfl : k = m := by omega
                    exact ⟨d, hdd, hwd⟩)
                clear HALL hdd
                go_wp2_with (go_at_call 26; refine (HW _).mono ?_; rintro e w1' ⟨rfl, rfl⟩)
                go_roundw
                case rel => exact ⟨m + 1, by omega, by omega, by go_num, trivial, HALL2⟩
                case measure => simp [intOf]; omega
              | false =>
                rw [hwd] at HW
                have hjm2 : j < m := by
                  rcases Nat.lt_or_ge j m with h | h
                  · exact h
                  · obtain rfl : j = m := by omega
                    obtain ⟨d', h1, h2⟩ := HST.out
                    rw [hdd] at h1
                    cases h1
                    rw [hwd] at h2
                    cases h2
                have HEND := hid' (show ∀ c, (s.data.toList.drop m).head? = some c → isWrd c = false from fun c' hc' => by
                  rw [List.head?_drop] at hc'
                  rw [hdd] at hc'
                  cases hc'
                  exact hwd)
                clear hdd hwd HST
                go_upto_region 12 with (go_at_call 26; refine (HW _).mono ?_; rintro e w1' ⟨rfl, rfl⟩)
                clear HW him v1 v2
                obtain ⟨u, hu, hus, hur⟩ := ssub_run s j m (by omega) (by rw [hn]; omega)
                have hul : u.data.toList.length = m - j := by rw [Array.length_toList]; exact hus
                have hu0 : u.data.toList ≠ [] := fun e => by rw [e] at hul; simp at hul; omega
                have hsplit : s.data.toList.drop j = u.data.toList ++ s.data.toList.drop m := by
                  rw [hu]
                  have := List.take_append_drop (m - j) (s.data.toList.drop j)
                  rw [List.drop_drop, show j + (m - j) = m by omega] at this
                  exact this.symm
                have hall : ∀ d ∈ u.data.toList, isWrd d = true := fun d hd => by
                  obtain ⟨k, hk, e⟩ := List.getElem_of_mem hd
                  obtain ⟨d', h1, h2⟩ := HALL.out (j + k) (by omega) (by omega)
                  have h3 : (s.data.toList.drop j)[k]? = some d' := by rw [List.getElem?_drop]; exact h1
                  rw [hsplit, List.getElem?_append_left hk, List.getElem?_eq_getElem hk, e] at h3
                  cases h3
                  exact h2
                have HRN := runC_run u.data.toList (s.data.toList.drop m)
                have HWD := fun w => word_ref u (by rw [hus]; omega) hu0 w
                obtain ⟨o, ho⟩ : ∃ o, o = wordT u.data.toList := ⟨_, rfl⟩
                have HB : Hid (∀ (L : List Tok) (ok : Bool), (∀ t, o = some t → runC (s.data.toList.drop j) ⟨L, [], ok⟩ = runC (s.data.toList.drop m) ⟨L ++ [t], [], ok⟩) ∧ (o = none → runC (s.data.toList.drop j) ⟨L, [], ok⟩ = runC (s.data.toList.drop m) ⟨L, [], false⟩)) := hid' (fun L ok => by
                  rw [hsplit, ho]
                  exact HRN L ok hu0 hall HEND.out)
                rw [← ho] at HWD
                clear ho HRN hall hsplit hu0 hul hu HALL HEND
                go_wp2_with fail
                refine (HWD _).mono ?_
                rintro e w2 ⟨⟨x0, x1, x2, rfl, hx⟩, f2⟩
                clear HWD hur hus
                have fA := (f2.alloc (.cells #[.int .i64 x0, .string x1, .int .i64 x2] 75)).alloc (.cells #[.int .i64 x0, .string x1, .int .i64 x2] 75)
                have rA : Row ((w2.alloc (.cells #[.int .i64 x0, .string x1, .int .i64 x2] 75)).alloc (.cells #[.int .i64 x0, .string x1, .int .i64 x2] 75)) (w2.heap.size + 1) #[.int .i64 x0, .string x1, .int .i64 x2] 75 := by
                  have := row_alloc (w2.alloc (.cells #[.int .i64 x0, .string x1, .int .i64 x2] 75)) #[.int .i64 x0, .string x1, .int .i64 x2] 75
                  simpa using this
                have HBX := hid' hx
                obtain ⟨v', w', R1, hC'⟩ := HC.out.tok (m := m) (b := o.isSome) fA (by omega) (by omega) rA (fun L hf hbb => by
                  cases o with
                  | none => cases hbb
                  | some y =>
                    refine ⟨y, ?_, (HB.out L true).1 y rfl⟩
                    have := HBX.out y rfl
                    rw [tokR_C] at this
                    have h' := congrArg (fun v => match v with | Value.agg a => a.toList | _ => []) this
                    simpa using h') (fun L => by
                  cases o with
                  | none => exact ⟨L, fun _ => (HB.out L b).2 rfl⟩
                  | some y => exact ⟨L ++ [y], fun hf => by
                      have hb0 : b = false := by simpa using hf
                      rw [hb0]
                      exact (HB.out L false).1 y rfl⟩)
                have HC' := hid' hC'
                clear fA rA hC' f2 HB HBX hx
                cases b with
                | false =>
                  go_wp2_with (at_builtin; refine wpList_append_runK rfl _ _ 42 rfl _ _ rfl rfl _ _ R1 ?_)
                  go_roundw
                  case rel => exact ⟨m, false, by omega, rfl, rfl, HC'⟩
                  case measure => simp [intOf]; omega
                | true =>
                  go_wp2_with (at_builtin; refine wpList_append_runK rfl _ _ 42 rfl _ _ rfl rfl _ _ R1 ?_)
                  go_roundw
                  case rel => exact ⟨m, o.isSome, by omega, rfl, rfl, HC'⟩
                  case measure => simp [intOf]; omega
            · have v1 : decide ((m : Int) < (n : Int)) = false := decide_eq_false (by omega)
              have v2 : decide (m < n) = false := decide_eq_false hltm
              have hjm2 : j < m := by omega
              have HEND := hid' (show ∀ c, (s.data.toList.drop m).head? = some c → isWrd c = false from fun c' hc' => by
                rw [List.drop_eq_nil_of_le (by rw [HSL.out]; omega)] at hc'
                cases hc')
              clear HST
              go_upto_region 12 with fail
              clear v1 v2
              obtain ⟨u, hu, hus, hur⟩ := ssub_run s j m (by omega) (by rw [hn]; omega)
              have hul : u.data.toList.length = m - j := by rw [Array.length_toList]; exact hus
              have hu0 : u.data.toList ≠ [] := fun e => by rw [e] at hul; simp at hul; omega
              have hsplit : s.data.toList.drop j = u.data.toList ++ s.data.toList.drop m := by
                rw [hu]
                have := List.take_append_drop (m - j) (s.data.toList.drop j)
                rw [List.drop_drop, show j + (m - j) = m by omega] at this
                exact this.symm
              have hall : ∀ d ∈ u.data.toList, isWrd d = true := fun d hd => by
                obtain ⟨k, hk, e⟩ := List.getElem_of_mem hd
                obtain ⟨d', h1, h2⟩ := HALL.out (j + k) (by omega) (by omega)
                have h3 : (s.data.toList.drop j)[k]? = some d' := by rw [List.getElem?_drop]; exact h1
                rw [hsplit, List.getElem?_append_left hk, List.getElem?_eq_getElem hk, e] at h3
                cases h3
                exact h2
              have HRN := runC_run u.data.toList (s.data.toList.drop m)
              have HWD := fun w => word_ref u (by rw [hus]; omega) hu0 w
              obtain ⟨o, ho⟩ : ∃ o, o = wordT u.data.toList := ⟨_, rfl⟩
              have HB : Hid (∀ (L : List Tok) (ok : Bool), (∀ t, o = some t → runC (s.data.toList.drop j) ⟨L, [], ok⟩ = runC (s.data.toList.drop m) ⟨L ++ [t], [], ok⟩) ∧ (o = none → runC (s.data.toList.drop j) ⟨L, [], ok⟩ = runC (s.data.toList.drop m) ⟨L, [], false⟩)) := hid' (fun L ok => by
                rw [hsplit, ho]
                exact HRN L ok hu0 hall HEND.out)
              rw [← ho] at HWD
              clear ho HRN hall hsplit hu0 hul hu HALL HEND
              go_wp2_with fail
              refine (HWD _).mono ?_
              rintro e w2 ⟨⟨x0, x1, x2, rfl, hx⟩, f2⟩
              clear HWD hur hus
              have fA := (f2.alloc (.cells #[.int .i64 x0, .string x1, .int .i64 x2] 75)).alloc (.cells #[.int .i64 x0, .string x1, .int .i64 x2] 75)
              have rA : Row ((w2.alloc (.cells #[.int .i64 x0, .string x1, .int .i64 x2] 75)).alloc (.cells #[.int .i64 x0, .string x1, .int .i64 x2] 75)) (w2.heap.size + 1) #[.int .i64 x0, .string x1, .int .i64 x2] 75 := by
                have := row_alloc (w2.alloc (.cells #[.int .i64 x0, .string x1, .int .i64 x2] 75)) #[.int .i64 x0, .string x1, .int .i64 x2] 75
                simpa using this
              have HBX := hid' hx
              obtain ⟨v', w', R1, hC'⟩ := HC.out.tok (m := m) (b := o.isSome) fA (by omega) (by omega) rA (fun L hf hbb => by
                cases o with
                | none => cases hbb
                | some y =>
                  refine ⟨y, ?_, (HB.out L true).1 y rfl⟩
                  have := HBX.out y rfl
                  rw [tokR_C] at this
                  have h' := congrArg (fun v => match v with | Value.agg a => a.toList | _ => []) this
                  simpa using h') (fun L => by
                cases o with
                | none => exact ⟨L, fun _ => (HB.out L b).2 rfl⟩
                | some y => exact ⟨L ++ [y], fun hf => by
                    have hb0 : b = false := by simpa using hf
                    rw [hb0]
                    exact (HB.out L false).1 y rfl⟩)
              have HC' := hid' hC'
              clear fA rA hC' f2 HB HBX hx
              cases b with
              | false =>
                go_wp2_with (at_builtin; refine wpList_append_runK rfl _ _ 42 rfl _ _ rfl rfl _ _ R1 ?_)
                go_roundw
                case rel => exact ⟨m, false, by omega, rfl, rfl, HC'⟩
                case measure => simp [intOf]; omega
              | true =>
                go_wp2_with (at_builtin; refine wpList_append_runK rfl _ _ 42 rfl _ _ rfl rfl _ _ R1 ?_)
                go_roundw
                case rel => exact ⟨m, o.isSome, by omega, rfl, rfl, HC'⟩
                case measure => simp [intOf]; omega
        | false =>
          by_cases e58 : c = 58
          · subst e58
            have hq' : q = 58 := by rw [← hq]; rfl
            subst hq'
            obtain ⟨tk, htk⟩ : ∃ tk : ByteArray, tk = ⟨[58].toArray⟩ := ⟨_, rfl⟩
            have hsl1 := fun w => sslice_run s j 58 hc w
            rw [← htk] at hsl1
            have fA := (Fr.refl none' w1).alloc (.cells #[.int .i64 1, .string tk, .int .i64 0] 75)
            have rA := row_alloc w1 #[.int .i64 1, .string tk, .int .i64 0] 75
            obtain ⟨v', w', R1, hC'⟩ := HC.out.tok (m := j + 1) (b := true) fA (by omega) (by omega) rA (fun L _ _ => ⟨Tok.sg 58, by rw [htk]; rfl, by rw [hd]; exact runC_sgn _ L true (by decide) (by decide)⟩) (fun L => ⟨L ++ [Tok.sg 58], fun hf => by
              have hb0 : b = false := by simpa using hf
              rw [hb0, hd]
              exact runC_sgn _ L false (by decide) (by decide)⟩)
            rw [Bool.and_true] at hC'
            have HC' := hid' hC'
            clear fA rA hC' htk hd hc HC
            go_wp2_with (at_builtin; refine wpList_append_runK rfl _ _ 42 rfl _ _ rfl rfl _ _ R1 ?_)
            go_roundw
            case rel => exact ⟨j + 1, b, by omega, by go_num, rfl, HC'⟩
            case measure => simp [intOf]; omega
          · have t58 : ((q : Int) == 58) = false := by
              rw [beq_eq_false_iff_ne]; intro e; exact e58 (UInt8.toNat_inj.1 (by show c.toNat = 58; omega))
            by_cases e44 : c = 44
            · subst e44
              have hq' : q = 44 := by rw [← hq]; rfl
              subst hq'
              obtain ⟨tk, htk⟩ : ∃ tk : ByteArray, tk = ⟨[44].toArray⟩ := ⟨_, rfl⟩
              have hsl1 := fun w => sslice_run s j 44 hc w
              rw [← htk] at hsl1
              have fA := (Fr.refl none' w1).alloc (.cells #[.int .i64 1, .string tk, .int .i64 0] 75)
              have rA := row_alloc w1 #[.int .i64 1, .string tk, .int .i64 0] 75
              obtain ⟨v', w', R1, hC'⟩ := HC.out.tok (m := j + 1) (b := true) fA (by omega) (by omega) rA (fun L _ _ => ⟨Tok.sg 44, by rw [htk]; rfl, by rw [hd]; exact runC_sgn _ L true (by decide) (by decide)⟩) (fun L => ⟨L ++ [Tok.sg 44], fun hf => by
                have hb0 : b = false := by simpa using hf
                rw [hb0, hd]
                exact runC_sgn _ L false (by decide) (by decide)⟩)
              rw [Bool.and_true] at hC'
              have HC' := hid' hC'
              clear fA rA hC' htk hd hc HC
              go_wp2_with (at_builtin; refine wpList_append_runK rfl _ _ 42 rfl _ _ rfl rfl _ _ R1 ?_)
              go_roundw
              case rel => exact ⟨j + 1, b, by omega, by go_num, rfl, HC'⟩
              case measure => simp [intOf]; omega
            · have t44 : ((q : Int) == 44) = false := by
                rw [beq_eq_false_iff_ne]; intro e; exact e44 (UInt8.toNat_inj.1 (by show c.toNat = 44; omega))
              by_cases e91 : c = 91
              · subst e91
                have hq' : q = 91 := by rw [← hq]; rfl
                subst hq'
                obtain ⟨tk, htk⟩ : ∃ tk : ByteArray, tk = ⟨[91].toArray⟩ := ⟨_, rfl⟩
                have hsl1 := fun w => sslice_run s j 91 hc w
                rw [← htk] at hsl1
                have fA := (Fr.refl none' w1).alloc (.cells #[.int .i64 1, .string tk, .int .i64 0] 75)
                have rA := row_alloc w1 #[.int .i64 1, .string tk, .int .i64 0] 75
                obtain ⟨v', w', R1, hC'⟩ := HC.out.tok (m := j + 1) (b := true) fA (by omega) (by omega) rA (fun L _ _ => ⟨Tok.sg 91, by rw [htk]; rfl, by rw [hd]; exact runC_sgn _ L true (by decide) (by decide)⟩) (fun L => ⟨L ++ [Tok.sg 91], fun hf => by
                  have hb0 : b = false := by simpa using hf
                  rw [hb0, hd]
                  exact runC_sgn _ L false (by decide) (by decide)⟩)
                rw [Bool.and_true] at hC'
                have HC' := hid' hC'
                clear fA rA hC' htk hd hc HC
                go_wp2_with (at_builtin; refine wpList_append_runK rfl _ _ 42 rfl _ _ rfl rfl _ _ R1 ?_)
                go_roundw
                case rel => exact ⟨j + 1, b, by omega, by go_num, rfl, HC'⟩
                case measure => simp [intOf]; omega
              · have t91 : ((q : Int) == 91) = false := by
                  rw [beq_eq_false_iff_ne]; intro e; exact e91 (UInt8.toNat_inj.1 (by show c.toNat = 91; omega))
                by_cases e93 : c = 93
                · subst e93
                  have hq' : q = 93 := by rw [← hq]; rfl
                  subst hq'
                  obtain ⟨tk, htk⟩ : ∃ tk : ByteArray, tk = ⟨[93].toArray⟩ := ⟨_, rfl⟩
                  have hsl1 := fun w => sslice_run s j 93 hc w
                  rw [← htk] at hsl1
                  have fA := (Fr.refl none' w1).alloc (.cells #[.int .i64 1, .string tk, .int .i64 0] 75)
                  have rA := row_alloc w1 #[.int .i64 1, .string tk, .int .i64 0] 75
                  obtain ⟨v', w', R1, hC'⟩ := HC.out.tok (m := j + 1) (b := true) fA (by omega) (by omega) rA (fun L _ _ => ⟨Tok.sg 93, by rw [htk]; rfl, by rw [hd]; exact runC_sgn _ L true (by decide) (by decide)⟩) (fun L => ⟨L ++ [Tok.sg 93], fun hf => by
                    have hb0 : b = false := by simpa using hf
                    rw [hb0, hd]
                    exact runC_sgn _ L false (by decide) (by decide)⟩)
                  rw [Bool.and_true] at hC'
                  have HC' := hid' hC'
                  clear fA rA hC' htk hd hc HC
                  go_wp2_with (at_builtin; refine wpList_append_runK rfl _ _ 42 rfl _ _ rfl rfl _ _ R1 ?_)
                  go_roundw
                  case rel => exact ⟨j + 1, b, by omega, by go_num, rfl, HC'⟩
                  case measure => simp [intOf]; omega
                · have t93 : ((q : Int) == 93) = false := by
                    rw [beq_eq_false_iff_ne]; intro e; exact e93 (UInt8.toNat_inj.1 (by show c.toNat = 93; omega))
                  by_cases e43 : c = 43
                  · subst e43
                    have hq' : q = 43 := by rw [← hq]; rfl
                    subst hq'
                    obtain ⟨tk, htk⟩ : ∃ tk : ByteArray, tk = ⟨[43].toArray⟩ := ⟨_, rfl⟩
                    have hsl1 := fun w => sslice_run s j 43 hc w
                    rw [← htk] at hsl1
                    have fA := (Fr.refl none' w1).alloc (.cells #[.int .i64 1, .string tk, .int .i64 0] 75)
                    have rA := row_alloc w1 #[.int .i64 1, .string tk, .int .i64 0] 75
                    obtain ⟨v', w', R1, hC'⟩ := HC.out.tok (m := j + 1) (b := true) fA (by omega) (by omega) rA (fun L _ _ => ⟨Tok.sg 43, by rw [htk]; rfl, by rw [hd]; exact runC_sgn _ L true (by decide) (by decide)⟩) (fun L => ⟨L ++ [Tok.sg 43], fun hf => by
                      have hb0 : b = false := by simpa using hf
                      rw [hb0, hd]
                      exact runC_sgn _ L false (by decide) (by decide)⟩)
                    rw [Bool.and_true] at hC'
                    have HC' := hid' hC'
                    clear fA rA hC' htk hd hc HC
                    go_wp2_with (at_builtin; refine wpList_append_runK rfl _ _ 42 rfl _ _ rfl rfl _ _ R1 ?_)
                    go_roundw
                    case rel => exact ⟨j + 1, b, by omega, by go_num, rfl, HC'⟩
                    case measure => simp [intOf]; omega
                  · have t43 : ((q : Int) == 43) = false := by
                      rw [beq_eq_false_iff_ne]; intro e; exact e43 (UInt8.toNat_inj.1 (by show c.toNat = 43; omega))
                    by_cases e32 : c = 32
                    · subst e32
                      have hq' : q = 32 := by rw [← hq]; rfl
                      subst hq'
                      have HC' := hid' (HC.out.blank hd)
                      clear hd hc HC
                      go_wp2_with fail
                      go_roundw
                      case rel => exact ⟨j + 1, b, by omega, by go_num, rfl, HC'⟩
                      case measure => simp [intOf]; omega
                    · have t32 : ((q : Int) == 32) = false := by
                        rw [beq_eq_false_iff_ne]; intro e; exact e32 (UInt8.toNat_inj.1 (by show c.toNat = 32; omega))
                      have hbad : (cutC s.data.toList).ok = false := by
                        obtain ⟨L, K, n', _, _, _, h4⟩ := HC.out.ex
                        rw [h4, hd]
                        exact runC_bad _ _ hw (by simp [isSgn, e58, e44, e91, e93, e43]) e32 h59
                      have HE := hid' (And.intro HC.out.fr hbad)
                      clear hbad hd hc HC
                      go_wp2_with fail
                      refine bodyPost_ret (results_tmp2 rfl _ _ _) rfl ?_
                      exact ⟨_, false, rfl, HE.out.1, HE.out.2.symm, fun h => by cases h⟩
    · have u1 : decide ((j : Int) < (n : Int)) = false := decide_eq_false (by omega)
      have u2 : decide (j < n) = false := decide_eq_false hlt
      have HE := hid' (HC.out.end (Or.inl (List.drop_eq_nil_of_le (by rw [HSL.out]; omega))))
      have HFr := hid' HC.out.fr
      clear HC
      go_wp2_with fail
      refine bodyPost_ret (results_tmp2 rfl _ _ _) rfl ?_
      exact ⟨_, b, rfl, HFr.out, HE.out.1, HE.out.2⟩

end Go.Proofs.YtecipogfdhpjfaaGreatDoor

/- AsmRefH -/
namespace Go.Proofs.YtecipogfdhpjfaaGreatDoor
open Go.RowKit

theorem split_at6 : ∀ (a r : List UInt8), (∀ c ∈ a, c ≠ 10) → splitB (a ++ 10 :: r) = a :: splitB r
  | [], r, _ => by rw [List.nil_append, splitB, if_pos rfl]
  | c :: a, r, h => by
    rw [List.cons_append, splitB, if_neg (h c (by simp)), split_at6 a r (fun d hd => h d (by simp [hd]))]
theorem split_only6 : ∀ (a : List UInt8), (∀ c ∈ a, c ≠ 10) → splitB a = [a]
  | [], _ => rfl
  | c :: a, h => by rw [splitB, if_neg (h c (by simp)), split_only6 a (fun d hd => h d (by simp [hd]))]

theorem info_str : (Tryz.prog.info? 9).map (fun i => (i.zero, i.size, i.bytes)) = some (some (.string ⟨#[]⟩), 1, 16) := by kernel_rfl
def strL (l : List (List UInt8)) : List Value := l.map fun s => Value.string ⟨s.toArray⟩
/-- Texts of the call's own. -/
def StS (w : World) (B : Nat) (v : Value) (l : List (List UInt8)) : Prop := OwnK 9 1 w B v l.length (strL l)
theorem append_st (w : World) (B g : Nat) (v : Value) (l : List (List UInt8)) (x : ByteArray) (hb : B ≤ w.heap.size) (ho : StS w B v l) (hn : l.length < 1000000) (r : Row w g #[.string x] 9) :
    ∃ v' w', (Builtin.append_ #[39, 39] 39 #[v, .slice (some ⟨g, 0, none⟩) 1 1]).run Tryz.prog w = .ok v' w' ∧ Fr (fun q => some q = v.ownBlock) w w' ∧ StS w' B v' (l ++ [x.data.toList]) := by
  obtain ⟨v', w', g1, g2, g3⟩ := append_k (T := 39) Tryz.underlying39 info_str rfl (by omega) (by omega) w B ⟨g, 0, none⟩ v l.length (strL l) [.string x] hb ho (by omega) rfl (fun j u hu => by
    rw [add_lit', Nat.zero_add, r.cell]
    match j, hu with
    | 0, hu => simpa using hu
    | j + 1, hu => simp at hu) (fun u hu => by simp at hu; subst hu; rfl)
  refine ⟨v', w', g1, g2, ?_⟩
  unfold StS
  rw [List.length_append]
  have : strL (l ++ [x.data.toList]) = strL l ++ [.string x] := by simp [strL]
  rw [this]
  exact g3

/-- Where split stands. -/
structure SpAt (w wr : World) (s : ByteArray) (f j : Nat) (v : Value) : Prop where
  fr : Fr none' w wr
  le : f ≤ j
  no : ∀ c ∈ (s.data.toList.drop f).take (j - f), c ≠ 10
  ex : ∃ A : List (List UInt8), StS wr w.heap.size v A ∧ A.length ≤ j ∧ splitB s.data.toList = A ++ splitB (s.data.toList.drop f)

theorem take_more' {S : List UInt8} {f j : Nat} (hf : f ≤ j) {c : UInt8} (hc : S[j]? = some c) : (S.drop f).take (j + 1 - f) = (S.drop f).take (j - f) ++ [c] := by
  rw [show j + 1 - f = (j - f) + 1 by omega, List.take_add_one, List.getElem?_drop, show f + (j - f) = j by omega, hc]
  rfl

set_option maxRecDepth 100000 in
set_option maxHeartbeats 2000000 in
theorem split_ref (s : ByteArray) (hb : s.size ≤ 5000) (w : World) : Calls Tryz.prog 13 #[.string s] w fun e w' => ∃ v, e = .returned v ∧ Fr none' w w' ∧ StS w' w.heap.size v (splitB s.data.toList) := by
  obtain ⟨n, hn⟩ : ∃ n, s.size = n := ⟨_, rfl⟩
  rw [hn] at hb
  have hsl : s.data.toList.length = n := by rw [Array.length_toList]; exact hn
  have HSL := hid' hsl
  have HC := hid' (show SpAt w w s 0 0 (.slice none 0 0) from ⟨Fr.refl _ _, Nat.le_refl _, fun c hc => by simp at hc, [], ⟨⟨by simp [strL], Or.inl ⟨rfl, rfl⟩⟩, fun _ => rfl⟩, Nat.le_refl _, by simp⟩)
  clear hsl
  go_enter Tryz.func13, Tryz.ntmps13
  go_wp2_with fail
  go_loopw [3, 4, 5] (fun v f i wr => ∃ (a j : Nat), j ≤ n ∧ a ≤ j ∧ i = .int .i64 (j : Int) ∧ f = .int .i64 (a : Int) ∧ Hid (SpAt w wr s a j v)) (fun _ _ i _ => n - (intOf i).toNat)
  case atStart => exact ⟨0, 0, by omega, by omega, rfl, rfl, HC⟩
  case round =>
    clear HC
    obtain ⟨a, j, hj, haj, rfl, rfl, HC⟩ := hrel
    by_cases hlt : j < n
    · have u1 : decide ((j : Int) < (n : Int)) = true := decide_eq_true (by omega)
      have u2 : decide (j < n) = true := decide_eq_true hlt
      obtain ⟨c, hc⟩ : ∃ c, s.data.toList[j]? = some c := ⟨_, List.getElem?_eq_getElem (by rw [HSL.out]; exact hlt)⟩
      obtain ⟨q, hq⟩ : ∃ q, c.toNat = q := ⟨_, rfl⟩
      have hij : ∀ w, (Instr.index 9 (.string s) (.int .i64 (j : Int))).run Tryz.prog w = .ok (.int .u8 (q : Int)) w := fun w => sidx_run s j c hc (q : Int) (by rw [hq]) w
      have hd : s.data.toList.drop j = c :: s.data.toList.drop (j + 1) := by
        have hk' : j < s.data.toList.length := by rw [HSL.out]; exact hlt
        rw [List.drop_eq_getElem_cons hk']
        rw [List.getElem?_eq_getElem hk'] at hc
        rw [Option.some.inj hc]
      have hsp : s.data.toList.drop a = (s.data.toList.drop a).take (j - a) ++ c :: s.data.toList.drop (j + 1) := by
        have := List.take_append_drop (j - a) (s.data.toList.drop a)
        rw [List.drop_drop, show a + (j - a) = j by omega, hd] at this
        exact this.symm
      by_cases h10 : c = 10
      · subst h10
        have hq' : q = 10 := by rw [← hq]; rfl
        subst hq'
        obtain ⟨t, ht, hts, htr⟩ := ssub_run s a j haj (by rw [hn]; omega)
        have fA := (Fr.refl none' wr).alloc (.cells #[.string t] 9)
        have rA := row_alloc wr #[.string t] 9
        obtain ⟨A, h1, h2, h3⟩ := HC.out.ex
        have o1 : StS (wr.alloc (.cells #[.string t] 9)) w.heap.size _ A := OwnK.keep0 h1 fA
        obtain ⟨v', w', R1, g2, g3⟩ := append_st _ w.heap.size wr.heap.size _ A t (HC.out.fr.trans fA).size o1 (by omega) rA
        have HC' := hid' (show SpAt w w' s (j + 1) (j + 1) v' from ⟨(HC.out.fr.trans fA).ownK g2 o1, Nat.le_refl _, fun c hc => by simp at hc, _, g3, by rw [List.length_append]; simp; omega, by
          rw [h3, hsp, split_at6 _ _ HC.out.no, ht]
          simp⟩)
        clear fA rA h1 h2 h3 o1 g2 g3 HC hsp hd hc ht hts
        go_wp2_with (at_builtin; refine wpList_append_runK rfl _ _ 39 rfl _ _ rfl rfl _ _ R1 ?_)
        go_roundw
        case rel => exact ⟨j + 1, j + 1, by omega, by omega, by go_num, by go_num, HC'⟩
        case measure => simp [intOf]; omega
      · have t10 : ((q : Int) == 10) = false := by
          rw [beq_eq_false_iff_ne]; intro e; exact h10 (UInt8.toNat_inj.1 (by show c.toNat = 10; omega))
        have HC' := hid' (show SpAt w wr s a (j + 1) _ from ⟨HC.out.fr, by omega, fun d hd => by
          rw [take_more' haj hc] at hd
          rcases List.mem_append.1 hd with hd | hd
          · exact HC.out.no d hd
          · rw [List.mem_singleton] at hd
            rw [hd]; exact h10, by
          obtain ⟨A, h1, h2, h3⟩ := HC.out.ex
          exact ⟨A, h1, by omega, h3⟩⟩)
        clear HC hsp hd hc
        go_wp2_with fail
        go_roundw
        case rel => exact ⟨a, j + 1, by omega, by omega, by go_num, rfl, HC'⟩
        case measure => simp [intOf]; omega
    · have u1 : decide ((j : Int) < (n : Int)) = false := decide_eq_false (by omega)
      have u2 : decide (j < n) = false := decide_eq_false hlt
      have ejn : j = n := by omega
      obtain ⟨t, ht, hts, htr⟩ := ssuf_run s a (by rw [hn]; omega)
      have fA := (Fr.refl none' wr).alloc (.cells #[.string t] 9)
      have rA := row_alloc wr #[.string t] 9
      obtain ⟨A, h1, h2, h3⟩ := HC.out.ex
      have o1 : StS (wr.alloc (.cells #[.string t] 9)) w.heap.size _ A := OwnK.keep0 h1 fA
      obtain ⟨v', w', R1, g2, g3⟩ := append_st _ w.heap.size wr.heap.size _ A t (HC.out.fr.trans fA).size o1 (by omega) rA
      have HE := hid' (show Fr none' w w' ∧ StS w' w.heap.size v' (splitB s.data.toList) from ⟨(HC.out.fr.trans fA).ownK g2 o1, by
        have hno : ∀ c ∈ s.data.toList.drop a, c ≠ 10 := fun c hc => HC.out.no c (by rw [List.take_of_length_le (by rw [List.length_drop, HSL.out]; omega)]; exact hc)
        rw [h3, split_only6 _ hno, ← ht]
        exact g3⟩)
      clear fA rA h1 h2 h3 o1 g2 g3 HC ht hts ejn
      go_wp2_with (at_builtin; refine wpList_append_runK rfl _ _ 39 rfl _ _ rfl rfl _ _ R1 ?_)
      go_ret
      exact ⟨v', rfl, HE.out⟩

end Go.Proofs.YtecipogfdhpjfaaGreatDoor

/- AsmRefI -/
namespace Go.Proofs.YtecipogfdhpjfaaGreatDoor
open Go.RowKit

/-- A line that has an instruction, as viceroyref06 has it. -/
def lnY (y : Ln6) : Array Value := #[.string ⟨y.lab.toArray⟩, .bool true, .int .i64 y.o, .int .i64 y.a, .int .i64 y.b, .int .i64 y.c, .int .i64 y.i, .string ⟨y.nm.toArray⟩, .bool false, .int .i64 (y.n : Int)]

/-- What operand leaves. -/
def Opd (w : World) (g : Nat) (r : Nat × Ln6) (e : Ending) (w' : World) : Prop := e = .returned (.int .i64 (r.1 : Int)) ∧ Fr (at' g) w w' ∧ Row w' g (lnY r.2) 48

theorem opd_same {w : World} {g : Nat} {y : Ln6} {k n : Int} {t : ByteArray} (r : Row w g (lnY y) 48) (e : Nat) (v : Int) (hv : v = (e : Int)) : Opd w g (e, y) (.returned (.int .i64 v)) (w.alloc (.cells #[.int .i64 k, .string t, .int .i64 n] 75)) := ⟨by rw [hv], ((Fr.refl (at' g) w).alloc _), r.alloc _⟩

set_option maxRecDepth 100000 in
set_option maxHeartbeats 1000000 in
theorem opd97_sg (w : World) (g : Nat) (y : Ln6) (r : Row w g (lnY y) 48) (d : UInt8) : Calls Tryz.prog 30 #[.pointer (some ⟨g, 0, none⟩), .int .u8 97, .agg #[.int .i64 1, .string ⟨[d].toArray⟩, .int .i64 0]] w (Opd w g (operT y 97 (.sg d))) := by
  obtain ⟨tt, htt⟩ : ∃ tt : ByteArray, tt = ⟨[d].toArray⟩ := ⟨_, rfl⟩
  rw [← htt]
  have HE := hid' (opd_same (k := 1) (n := 0) (t := tt) r 61 61 rfl)
  rw [show operT y 97 (.sg d) = (61, y) from rfl]
  clear r htt
  go_enter Tryz.func30, Tryz.ntmps30
  go_wp2_with fail
  go_ret
  exact HE.out

set_option maxRecDepth 100000 in
set_option maxHeartbeats 1000000 in
theorem opd97_num (w : World) (g : Nat) (y : Ln6) (r : Row w g (lnY y) 48) (n : Nat) : Calls Tryz.prog 30 #[.pointer (some ⟨g, 0, none⟩), .int .u8 97, .agg #[.int .i64 2, .string ⟨#[]⟩, .int .i64 (n : Int)]] w (Opd w g (operT y 97 (.num n))) := by
  have HE := hid' (opd_same (k := 2) (n := (n : Int)) (t := ⟨#[]⟩) r 61 61 rfl)
  rw [show operT y 97 (.num n) = (61, y) from rfl]
  clear r
  go_enter Tryz.func30, Tryz.ntmps30
  go_wp2_with fail
  go_ret
  exact HE.out

set_option maxRecDepth 100000 in
set_option maxHeartbeats 1000000 in
theorem opd97_nm (w : World) (g : Nat) (y : Ln6) (r : Row w g (lnY y) 48) (s : List UInt8) : Calls Tryz.prog 30 #[.pointer (some ⟨g, 0, none⟩), .int .u8 97, .agg #[.int .i64 4, .string ⟨s.toArray⟩, .int .i64 0]] w (Opd w g (operT y 97 (.nm s))) := by
  obtain ⟨tt, htt⟩ : ∃ tt : ByteArray, tt = ⟨s.toArray⟩ := ⟨_, rfl⟩
  rw [← htt]
  have HE := hid' (opd_same (k := 4) (n := 0) (t := tt) r 61 61 rfl)
  rw [show operT y 97 (.nm s) = (61, y) from rfl]
  clear r htt
  go_enter Tryz.func30, Tryz.ntmps30
  go_wp2_with fail
  go_ret
  exact HE.out

set_option maxRecDepth 100000 in
set_option maxHeartbeats 1000000 in
theorem opd97_reg (w : World) (g : Nat) (y : Ln6) (r : Row w g (lnY y) 48) (n : Nat) : Calls Tryz.prog 30 #[.pointer (some ⟨g, 0, none⟩), .int .u8 97, .agg #[.int .i64 3, .string ⟨#[]⟩, .int .i64 (n : Int)]] w (Opd w g (operT y 97 (.reg n))) := by
  by_cases h : 15 < n
  · have HE := hid' (opd_same (k := 3) (n := (n : Int)) (t := ⟨#[]⟩) r 63 63 rfl)
    rw [show operT y 97 (.reg n) = (63, y) by unfold operT; simp [h]]
    have u : decide (15 < (n : Int)) = true := decide_eq_true (by omega)
    have u' : decide (15 < n) = true := decide_eq_true h
    clear r
    go_enter Tryz.func30, Tryz.ntmps30
    go_wp2_with fail
    go_ret
    exact HE.out
  · have rt := r.alloc (.cells #[.int .i64 3, .string ⟨#[]⟩, .int .i64 (n : Int)] 75)
    have y0 : (w.alloc (.cells #[.int .i64 3, .string ⟨#[]⟩, .int .i64 (n : Int)] 75)).cell? ⟨g, 3, none⟩ = some (.int .i64 y.a) := rt.cell 3
    have z0 := rt.frozen 3
    have HE := hid' (show Opd w g (0, { y with a := (n : Int) }) (.returned (.int .i64 0)) ((w.alloc (.cells #[.int .i64 3, .string ⟨#[]⟩, .int .i64 (n : Int)] 75)).setCell ⟨g, 3, none⟩ (.int .i64 (n : Int))) from ⟨rfl, ((Fr.refl (at' g) w).alloc _).setCell (p := ⟨g, 3, none⟩) (Or.inr rfl) _, rt.setCell 3 (.int .i64 (n : Int))⟩)
    rw [show operT y 97 (.reg n) = (0, { y with a := (n : Int) }) by unfold operT; simp [h]]
    have u : decide (15 < (n : Int)) = false := decide_eq_false (by omega)
    have u' : decide (15 < n) = false := decide_eq_false h
    have hl : w.heap.size ≠ g := by have := r.lt; omega
    have hl2 : g ≠ w.heap.size := by have := r.lt; omega
    clear r rt
    go_enter Tryz.func30, Tryz.ntmps30
    go_wp2_with fail
    go_ret
    exact HE.out

set_option maxRecDepth 100000 in
set_option maxHeartbeats 1000000 in
theorem opd98_sg (w : World) (g : Nat) (y : Ln6) (r : Row w g (lnY y) 48) (d : UInt8) : Calls Tryz.prog 30 #[.pointer (some ⟨g, 0, none⟩), .int .u8 98, .agg #[.int .i64 1, .string ⟨[d].toArray⟩, .int .i64 0]] w (Opd w g (operT y 98 (.sg d))) := by
  obtain ⟨tt, htt⟩ : ∃ tt : ByteArray, tt = ⟨[d].toArray⟩ := ⟨_, rfl⟩
  rw [← htt]
  have HE := hid' (opd_same (k := 1) (n := 0) (t := tt) r 61 61 rfl)
  rw [show operT y 98 (.sg d) = (61, y) from rfl]
  clear r htt
  go_enter Tryz.func30, Tryz.ntmps30
  go_wp2_with fail
  go_ret
  exact HE.out

set_option maxRecDepth 100000 in
set_option maxHeartbeats 1000000 in
theorem opd98_num (w : World) (g : Nat) (y : Ln6) (r : Row w g (lnY y) 48) (n : Nat) : Calls Tryz.prog 30 #[.pointer (some ⟨g, 0, none⟩), .int .u8 98, .agg #[.int .i64 2, .string ⟨#[]⟩, .int .i64 (n : Int)]] w (Opd w g (operT y 98 (.num n))) := by
  have HE := hid' (opd_same (k := 2) (n := (n : Int)) (t := ⟨#[]⟩) r 61 61 rfl)
  rw [show operT y 98 (.num n) = (61, y) from rfl]
  clear r
  go_enter Tryz.func30, Tryz.ntmps30
  go_wp2_with fail
  go_ret
  exact HE.out

set_option maxRecDepth 100000 in
set_option maxHeartbeats 1000000 in
theorem opd98_nm (w : World) (g : Nat) (y : Ln6) (r : Row w g (lnY y) 48) (s : List UInt8) : Calls Tryz.prog 30 #[.pointer (some ⟨g, 0, none⟩), .int .u8 98, .agg #[.int .i64 4, .string ⟨s.toArray⟩, .int .i64 0]] w (Opd w g (operT y 98 (.nm s))) := by
  obtain ⟨tt, htt⟩ : ∃ tt : ByteArray, tt = ⟨s.toArray⟩ := ⟨_, rfl⟩
  rw [← htt]
  have HE := hid' (opd_same (k := 4) (n := 0) (t := tt) r 61 61 rfl)
  rw [show operT y 98 (.nm s) = (61, y) from rfl]
  clear r htt
  go_enter Tryz.func30, Tryz.ntmps30
  go_wp2_with fail
  go_ret
  exact HE.out

set_option maxRecDepth 100000 in
set_option maxHeartbeats 1000000 in
theorem opd98_reg (w : World) (g : Nat) (y : Ln6) (r : Row w g (lnY y) 48) (n : Nat) : Calls Tryz.prog 30 #[.pointer (some ⟨g, 0, none⟩), .int .u8 98, .agg #[.int .i64 3, .string ⟨#[]⟩, .int .i64 (n : Int)]] w (Opd w g (operT y 98 (.reg n))) := by
  by_cases h : 15 < n
  · have HE := hid' (opd_same (k := 3) (n := (n : Int)) (t := ⟨#[]⟩) r 63 63 rfl)
    rw [show operT y 98 (.reg n) = (63, y) by unfold operT; simp [h]]
    have u : decide (15 < (n : Int)) = true := decide_eq_true (by omega)
    have u' : decide (15 < n) = true := decide_eq_true h
    clear r
    go_enter Tryz.func30, Tryz.ntmps30
    go_wp2_with fail
    go_ret
    exact HE.out
  · have rt := r.alloc (.cells #[.int .i64 3, .string ⟨#[]⟩, .int .i64 (n : Int)] 75)
    have y0 : (w.alloc (.cells #[.int .i64 3, .string ⟨#[]⟩, .int .i64 (n : Int)] 75)).cell? ⟨g, 4, none⟩ = some (.int .i64 y.b) := rt.cell 4
    have z0 := rt.frozen 4
    have HE := hid' (show Opd w g (0, { y with b := (n : Int) }) (.returned (.int .i64 0)) ((w.alloc (.cells #[.int .i64 3, .string ⟨#[]⟩, .int .i64 (n : Int)] 75)).setCell ⟨g, 4, none⟩ (.int .i64 (n : Int))) from ⟨rfl, ((Fr.refl (at' g) w).alloc _).setCell (p := ⟨g, 4, none⟩) (Or.inr rfl) _, rt.setCell 4 (.int .i64 (n : Int))⟩)
    rw [show operT y 98 (.reg n) = (0, { y with b := (n : Int) }) by unfold operT; simp [h]]
    have u : decide (15 < (n : Int)) = false := decide_eq_false (by omega)
    have u' : decide (15 < n) = false := decide_eq_false h
    have hl : w.heap.size ≠ g := by have := r.lt; omega
    have hl2 : g ≠ w.heap.size := by have := r.lt; omega
    clear r rt
    go_enter Tryz.func30, Tryz.ntmps30
    go_wp2_with fail
    go_ret
    exact HE.out

set_option maxRecDepth 100000 in
set_option maxHeartbeats 1000000 in
theorem opd99_sg (w : World) (g : Nat) (y : Ln6) (r : Row w g (lnY y) 48) (d : UInt8) : Calls Tryz.prog 30 #[.pointer (some ⟨g, 0, none⟩), .int .u8 99, .agg #[.int .i64 1, .string ⟨[d].toArray⟩, .int .i64 0]] w (Opd w g (operT y 99 (.sg d))) := by
  obtain ⟨tt, htt⟩ : ∃ tt : ByteArray, tt = ⟨[d].toArray⟩ := ⟨_, rfl⟩
  rw [← htt]
  have HE := hid' (opd_same (k := 1) (n := 0) (t := tt) r 61 61 rfl)
  rw [show operT y 99 (.sg d) = (61, y) from rfl]
  clear r htt
  go_enter Tryz.func30, Tryz.ntmps30
  go_wp2_with fail
  go_ret
  exact HE.out

set_option maxRecDepth 100000 in
set_option maxHeartbeats 1000000 in
theorem opd99_num (w : World) (g : Nat) (y : Ln6) (r : Row w g (lnY y) 48) (n : Nat) : Calls Tryz.prog 30 #[.pointer (some ⟨g, 0, none⟩), .int .u8 99, .agg #[.int .i64 2, .string ⟨#[]⟩, .int .i64 (n : Int)]] w (Opd w g (operT y 99 (.num n))) := by
  have HE := hid' (opd_same (k := 2) (n := (n : Int)) (t := ⟨#[]⟩) r 61 61 rfl)
  rw [show operT y 99 (.num n) = (61, y) from rfl]
  clear r
  go_enter Tryz.func30, Tryz.ntmps30
  go_wp2_with fail
  go_ret
  exact HE.out

set_option maxRecDepth 100000 in
set_option maxHeartbeats 1000000 in
theorem opd99_nm (w : World) (g : Nat) (y : Ln6) (r : Row w g (lnY y) 48) (s : List UInt8) : Calls Tryz.prog 30 #[.pointer (some ⟨g, 0, none⟩), .int .u8 99, .agg #[.int .i64 4, .string ⟨s.toArray⟩, .int .i64 0]] w (Opd w g (operT y 99 (.nm s))) := by
  obtain ⟨tt, htt⟩ : ∃ tt : ByteArray, tt = ⟨s.toArray⟩ := ⟨_, rfl⟩
  rw [← htt]
  have HE := hid' (opd_same (k := 4) (n := 0) (t := tt) r 61 61 rfl)
  rw [show operT y 99 (.nm s) = (61, y) from rfl]
  clear r htt
  go_enter Tryz.func30, Tryz.ntmps30
  go_wp2_with fail
  go_ret
  exact HE.out

set_option maxRecDepth 100000 in
set_option maxHeartbeats 1000000 in
theorem opd99_reg (w : World) (g : Nat) (y : Ln6) (r : Row w g (lnY y) 48) (n : Nat) : Calls Tryz.prog 30 #[.pointer (some ⟨g, 0, none⟩), .int .u8 99, .agg #[.int .i64 3, .string ⟨#[]⟩, .int .i64 (n : Int)]] w (Opd w g (operT y 99 (.reg n))) := by
  by_cases h : 15 < n
  · have HE := hid' (opd_same (k := 3) (n := (n : Int)) (t := ⟨#[]⟩) r 63 63 rfl)
    rw [show operT y 99 (.reg n) = (63, y) by unfold operT; simp [h]]
    have u : decide (15 < (n : Int)) = true := decide_eq_true (by omega)
    have u' : decide (15 < n) = true := decide_eq_true h
    clear r
    go_enter Tryz.func30, Tryz.ntmps30
    go_wp2_with fail
    go_ret
    exact HE.out
  · have rt := r.alloc (.cells #[.int .i64 3, .string ⟨#[]⟩, .int .i64 (n : Int)] 75)
    have y0 : (w.alloc (.cells #[.int .i64 3, .string ⟨#[]⟩, .int .i64 (n : Int)] 75)).cell? ⟨g, 5, none⟩ = some (.int .i64 y.c) := rt.cell 5
    have z0 := rt.frozen 5
    have HE := hid' (show Opd w g (0, { y with c := (n : Int) }) (.returned (.int .i64 0)) ((w.alloc (.cells #[.int .i64 3, .string ⟨#[]⟩, .int .i64 (n : Int)] 75)).setCell ⟨g, 5, none⟩ (.int .i64 (n : Int))) from ⟨rfl, ((Fr.refl (at' g) w).alloc _).setCell (p := ⟨g, 5, none⟩) (Or.inr rfl) _, rt.setCell 5 (.int .i64 (n : Int))⟩)
    rw [show operT y 99 (.reg n) = (0, { y with c := (n : Int) }) by unfold operT; simp [h]]
    have u : decide (15 < (n : Int)) = false := decide_eq_false (by omega)
    have u' : decide (15 < n) = false := decide_eq_false h
    have hl : w.heap.size ≠ g := by have := r.lt; omega
    have hl2 : g ≠ w.heap.size := by have := r.lt; omega
    clear r rt
    go_enter Tryz.func30, Tryz.ntmps30
    go_wp2_with fail
    go_ret
    exact HE.out

set_option maxRecDepth 100000 in
set_option maxHeartbeats 1000000 in
theorem opd105_sg (w : World) (g : Nat) (y : Ln6) (r : Row w g (lnY y) 48) (d : UInt8) : Calls Tryz.prog 30 #[.pointer (some ⟨g, 0, none⟩), .int .u8 105, .agg #[.int .i64 1, .string ⟨[d].toArray⟩, .int .i64 0]] w (Opd w g (operT y 105 (.sg d))) := by
  obtain ⟨tt, htt⟩ : ∃ tt : ByteArray, tt = ⟨[d].toArray⟩ := ⟨_, rfl⟩
  rw [← htt]
  have HE := hid' (opd_same (k := 1) (n := 0) (t := tt) r 61 61 rfl)
  rw [show operT y 105 (.sg d) = (61, y) from rfl]
  clear r htt
  go_enter Tryz.func30, Tryz.ntmps30
  go_wp2_with fail
  go_ret
  exact HE.out

set_option maxRecDepth 100000 in
set_option maxHeartbeats 1000000 in
theorem opd105_reg (w : World) (g : Nat) (y : Ln6) (r : Row w g (lnY y) 48) (n : Nat) : Calls Tryz.prog 30 #[.pointer (some ⟨g, 0, none⟩), .int .u8 105, .agg #[.int .i64 3, .string ⟨#[]⟩, .int .i64 (n : Int)]] w (Opd w g (operT y 105 (.reg n))) := by
  have HE := hid' (opd_same (k := 3) (n := (n : Int)) (t := ⟨#[]⟩) r 61 61 rfl)
  rw [show operT y 105 (.reg n) = (61, y) from rfl]
  clear r
  go_enter Tryz.func30, Tryz.ntmps30
  go_wp2_with fail
  go_ret
  exact HE.out

set_option maxRecDepth 100000 in
set_option maxHeartbeats 1000000 in
theorem opd105_num (w : World) (g : Nat) (y : Ln6) (r : Row w g (lnY y) 48) (n : Nat) : Calls Tryz.prog 30 #[.pointer (some ⟨g, 0, none⟩), .int .u8 105, .agg #[.int .i64 2, .string ⟨#[]⟩, .int .i64 (n : Int)]] w (Opd w g (operT y 105 (.num n))) := by
  by_cases h : 65535 < n
  · have HE := hid' (opd_same (k := 2) (n := (n : Int)) (t := ⟨#[]⟩) r 63 63 rfl)
    rw [show operT y 105 (.num n) = (63, y) by unfold operT; simp [h]]
    have u : decide (65535 < (n : Int)) = true := decide_eq_true (by omega)
    have u' : decide (65535 < n) = true := decide_eq_true h
    clear r
    go_enter Tryz.func30, Tryz.ntmps30
    go_wp2_with fail
    go_ret
    exact HE.out
  · have rt := r.alloc (.cells #[.int .i64 2, .string ⟨#[]⟩, .int .i64 (n : Int)] 75)
    have y0 : (w.alloc (.cells #[.int .i64 2, .string ⟨#[]⟩, .int .i64 (n : Int)] 75)).cell? ⟨g, 6, none⟩ = some (.int .i64 y.i) := rt.cell 6
    have z0 := rt.frozen 6
    have HE := hid' (show Opd w g (0, { y with i := (n : Int) }) (.returned (.int .i64 0)) ((w.alloc (.cells #[.int .i64 2, .string ⟨#[]⟩, .int .i64 (n : Int)] 75)).setCell ⟨g, 6, none⟩ (.int .i64 (n : Int))) from ⟨rfl, ((Fr.refl (at' g) w).alloc _).setCell (p := ⟨g, 6, none⟩) (Or.inr rfl) _, rt.setCell 6 (.int .i64 (n : Int))⟩)
    rw [show operT y 105 (.num n) = (0, { y with i := (n : Int) }) by unfold operT; simp [h]]
    have u : decide (65535 < (n : Int)) = false := decide_eq_false (by omega)
    have u' : decide (65535 < n) = false := decide_eq_false h
    have hl : w.heap.size ≠ g := by have := r.lt; omega
    have hl2 : g ≠ w.heap.size := by have := r.lt; omega
    clear r rt
    go_enter Tryz.func30, Tryz.ntmps30
    go_wp2_with fail
    go_ret
    exact HE.out

set_option maxRecDepth 100000 in
set_option maxHeartbeats 1000000 in
theorem opd105_nm (w : World) (g : Nat) (y : Ln6) (r : Row w g (lnY y) 48) (s : List UInt8) : Calls Tryz.prog 30 #[.pointer (some ⟨g, 0, none⟩), .int .u8 105, .agg #[.int .i64 4, .string ⟨s.toArray⟩, .int .i64 0]] w (Opd w g (operT y 105 (.nm s))) := by
  obtain ⟨tt, htt⟩ : ∃ tt : ByteArray, tt = ⟨s.toArray⟩ := ⟨_, rfl⟩
  have hts : tt.data.toList = s := by rw [htt]
  rw [← htt]
  have HO := fun w => operation_ref tt w
  rw [hts] at HO
  have f1 := (Fr.refl none' w).alloc (.cells #[.int .i64 4, .string tt, .int .i64 0] 75)
  have rt := r.alloc (.cells #[.int .i64 4, .string tt, .int .i64 0] 75)
  have tk := row_alloc w #[.int .i64 4, .string tt, .int .i64 0] 75
  have HR := hid' (And.intro r.lt (And.intro rt tk))
  obtain ⟨er, her⟩ : ∃ er : Nat, er = (if opOf s ≠ 0 then 61 else 0) := ⟨_, rfl⟩
  have hres : operT y 105 (.nm s) = (er, { y with nm := s }) := by rw [her]; rfl
  have HER := hid' her
  clear her
  rw [hres]
  have HT := hid' htt
  clear r rt tk hres htt hts
  go_enter Tryz.func30, Tryz.ntmps30
  go_wp2_with fail
  refine (HO _).mono ?_
  rintro e w2 ⟨rfl, f2⟩
  have hlt := HR.out.1
  have rt := HR.out.2.1.keep f2 (fun h => h)
  have tk := HR.out.2.2.keep f2 (fun h => h)
  have k1 : w2.cell? ⟨w.heap.size, 1, none⟩ = some (.string tt) := tk.cell 1
  have y0 : w2.cell? ⟨g, 7, none⟩ = some (.string ⟨y.nm.toArray⟩) := rt.cell 7
  have z0 := rt.frozen 7
  have HE := hid' (show Fr (at' g) w (w2.setCell ⟨g, 7, none⟩ (.string tt)) ∧ Row (w2.setCell ⟨g, 7, none⟩ (.string tt)) g (lnY { y with nm := s }) 48 from ⟨(show Fr (at' g) w w2 from (f1.trans f2).mono (fun _ _ h => h.elim)).setCell (p := ⟨g, 7, none⟩) (Or.inr rfl) _, by
    have := rt.setCell 7 (.string tt)
    rw [HT.out] at this ⊢
    exact this⟩)
  generalize (⟨y.nm.toArray⟩ : ByteArray) = old at y0
  clear f1 f2 rt tk HO HR HT hlt
  by_cases h : opOf s = 0
  · have u : (opOf s != 0) = false := by simpa using h
    have he0 : er = 0 := by rw [HER.out]; simp [h]
    subst he0
    clear h HER
    go_wp2_with fail
    go_ret
    exact ⟨rfl, HE.out⟩
  · have u : (opOf s != 0) = true := by simpa using h
    have he0 : er = 61 := by rw [HER.out]; simp [h]
    subst he0
    clear h HER
    go_wp2_with fail
    go_ret
    exact ⟨rfl, HE.out⟩

set_option maxRecDepth 100000 in
set_option maxHeartbeats 1000000 in
theorem opdo_num (w : World) (g : Nat) (y : Ln6) (r : Row w g (lnY y) 48) (c : UInt8) (q : Nat) (hq : c.toNat = q) (hc : c ≠ 97 ∧ c ≠ 98 ∧ c ≠ 99 ∧ c ≠ 105) (n : Nat) : Calls Tryz.prog 30 #[.pointer (some ⟨g, 0, none⟩), .int .u8 (q : Int), .agg #[.int .i64 2, .string ⟨#[]⟩, .int .i64 (n : Int)]] w (Opd w g (operT y c (.num n))) := by
  have t97 : ((q : Int) == 97) = false := by rw [beq_eq_false_iff_ne]; intro e; exact hc.1 (UInt8.toNat_inj.1 (by show c.toNat = 97; omega))
  have t98 : ((q : Int) == 98) = false := by rw [beq_eq_false_iff_ne]; intro e; exact hc.2.1 (UInt8.toNat_inj.1 (by show c.toNat = 98; omega))
  have t99 : ((q : Int) == 99) = false := by rw [beq_eq_false_iff_ne]; intro e; exact hc.2.2.1 (UInt8.toNat_inj.1 (by show c.toNat = 99; omega))
  have t105 : ((q : Int) == 105) = false := by rw [beq_eq_false_iff_ne]; intro e; exact hc.2.2.2 (UInt8.toNat_inj.1 (by show c.toNat = 105; omega))
  have HE := hid' (opd_same (k := 2) (n := (n : Int)) (t := ⟨#[]⟩) r 61 61 rfl)
  rw [show operT y c (.num n) = (61, y) by unfold operT; simp [hc.1, hc.2.1, hc.2.2.1, hc.2.2.2]]
  clear r
  go_enter Tryz.func30, Tryz.ntmps30
  go_wp2_with fail
  go_ret
  exact HE.out

set_option maxRecDepth 100000 in
set_option maxHeartbeats 1000000 in
theorem opdo_reg (w : World) (g : Nat) (y : Ln6) (r : Row w g (lnY y) 48) (c : UInt8) (q : Nat) (hq : c.toNat = q) (hc : c ≠ 97 ∧ c ≠ 98 ∧ c ≠ 99 ∧ c ≠ 105) (n : Nat) : Calls Tryz.prog 30 #[.pointer (some ⟨g, 0, none⟩), .int .u8 (q : Int), .agg #[.int .i64 3, .string ⟨#[]⟩, .int .i64 (n : Int)]] w (Opd w g (operT y c (.reg n))) := by
  have t97 : ((q : Int) == 97) = false := by rw [beq_eq_false_iff_ne]; intro e; exact hc.1 (UInt8.toNat_inj.1 (by show c.toNat = 97; omega))
  have t98 : ((q : Int) == 98) = false := by rw [beq_eq_false_iff_ne]; intro e; exact hc.2.1 (UInt8.toNat_inj.1 (by show c.toNat = 98; omega))
  have t99 : ((q : Int) == 99) = false := by rw [beq_eq_false_iff_ne]; intro e; exact hc.2.2.1 (UInt8.toNat_inj.1 (by show c.toNat = 99; omega))
  have t105 : ((q : Int) == 105) = false := by rw [beq_eq_false_iff_ne]; intro e; exact hc.2.2.2 (UInt8.toNat_inj.1 (by show c.toNat = 105; omega))
  have HE := hid' (opd_same (k := 3) (n := (n : Int)) (t := ⟨#[]⟩) r 61 61 rfl)
  rw [show operT y c (.reg n) = (61, y) by unfold operT; simp [hc.1, hc.2.1, hc.2.2.1, hc.2.2.2]]
  clear r
  go_enter Tryz.func30, Tryz.ntmps30
  go_wp2_with fail
  go_ret
  exact HE.out

set_option maxRecDepth 100000 in
set_option maxHeartbeats 1000000 in
theorem opdo_nm (w : World) (g : Nat) (y : Ln6) (r : Row w g (lnY y) 48) (c : UInt8) (q : Nat) (hq : c.toNat = q) (hc : c ≠ 97 ∧ c ≠ 98 ∧ c ≠ 99 ∧ c ≠ 105) (s : List UInt8) : Calls Tryz.prog 30 #[.pointer (some ⟨g, 0, none⟩), .int .u8 (q : Int), .agg #[.int .i64 4, .string ⟨s.toArray⟩, .int .i64 0]] w (Opd w g (operT y c (.nm s))) := by
  obtain ⟨tt, htt⟩ : ∃ tt : ByteArray, tt = ⟨s.toArray⟩ := ⟨_, rfl⟩
  rw [← htt]
  have t97 : ((q : Int) == 97) = false := by rw [beq_eq_false_iff_ne]; intro e; exact hc.1 (UInt8.toNat_inj.1 (by show c.toNat = 97; omega))
  have t98 : ((q : Int) == 98) = false := by rw [beq_eq_false_iff_ne]; intro e; exact hc.2.1 (UInt8.toNat_inj.1 (by show c.toNat = 98; omega))
  have t99 : ((q : Int) == 99) = false := by rw [beq_eq_false_iff_ne]; intro e; exact hc.2.2.1 (UInt8.toNat_inj.1 (by show c.toNat = 99; omega))
  have t105 : ((q : Int) == 105) = false := by rw [beq_eq_false_iff_ne]; intro e; exact hc.2.2.2 (UInt8.toNat_inj.1 (by show c.toNat = 105; omega))
  have HE := hid' (opd_same (k := 4) (n := 0) (t := tt) r 61 61 rfl)
  rw [show operT y c (.nm s) = (61, y) by unfold operT; simp [hc.1, hc.2.1, hc.2.2.1, hc.2.2.2]]
  clear r htt
  go_enter Tryz.func30, Tryz.ntmps30
  go_wp2_with fail
  go_ret
  exact HE.out

set_option maxRecDepth 100000 in
set_option maxHeartbeats 1000000 in
theorem opdo_sg (w : World) (g : Nat) (y : Ln6) (r : Row w g (lnY y) 48) (c : UInt8) (q : Nat) (hq : c.toNat = q) (hc : c ≠ 97 ∧ c ≠ 98 ∧ c ≠ 99 ∧ c ≠ 105) (d : UInt8) : Calls Tryz.prog 30 #[.pointer (some ⟨g, 0, none⟩), .int .u8 (q : Int), .agg #[.int .i64 1, .string ⟨[d].toArray⟩, .int .i64 0]] w (Opd w g (operT y c (.sg d))) := by
  obtain ⟨tt, htt⟩ : ∃ tt : ByteArray, tt = ⟨[d].toArray⟩ := ⟨_, rfl⟩
  rw [← htt]
  obtain ⟨x, hx⟩ : ∃ x, d.toNat = x := ⟨_, rfl⟩
  have hi : ∀ w, (Instr.index 9 (.string tt) (.int .i64 0)).run Tryz.prog w = .ok (.int .u8 (x : Int)) w := fun w => sidx_run tt 0 d (by rw [htt]; rfl) (x : Int) (by rw [hx]) w
  have t97 : ((q : Int) == 97) = false := by rw [beq_eq_false_iff_ne]; intro e; exact hc.1 (UInt8.toNat_inj.1 (by show c.toNat = 97; omega))
  have t98 : ((q : Int) == 98) = false := by rw [beq_eq_false_iff_ne]; intro e; exact hc.2.1 (UInt8.toNat_inj.1 (by show c.toNat = 98; omega))
  have t99 : ((q : Int) == 99) = false := by rw [beq_eq_false_iff_ne]; intro e; exact hc.2.2.1 (UInt8.toNat_inj.1 (by show c.toNat = 99; omega))
  have t105 : ((q : Int) == 105) = false := by rw [beq_eq_false_iff_ne]; intro e; exact hc.2.2.2 (UInt8.toNat_inj.1 (by show c.toNat = 105; omega))
  by_cases h : d = c
  · have HE := hid' (opd_same (k := 1) (n := 0) (t := tt) r 0 0 rfl)
    rw [show operT y c (.sg d) = (0, y) by unfold operT; simp [hc.1, hc.2.1, hc.2.2.1, hc.2.2.2, h]]
    have u : ((x : Int) != (q : Int)) = false := by subst h; rw [← hq, ← hx]; simp
    have u2 : (x : Int) = (q : Int) := by subst h; omega
    clear r htt
    have u3 : ((x : Int) == (q : Int)) = true := by simpa using u2
    clear u2
    go_enter Tryz.func30, Tryz.ntmps30
    go_wp2_with fail
    go_ret
    exact HE.out
  · have HE := hid' (opd_same (k := 1) (n := 0) (t := tt) r 61 61 rfl)
    rw [show operT y c (.sg d) = (61, y) by unfold operT; simp [hc.1, hc.2.1, hc.2.2.1, hc.2.2.2, h]]
    have u : ((x : Int) != (q : Int)) = true := by
      rw [bne_iff_ne]; intro e; exact h (UInt8.toNat_inj.1 (by omega))
    clear r htt
    go_enter Tryz.func30, Tryz.ntmps30
    go_wp2_with fail
    go_ret
    exact HE.out

theorem operand_ref (w : World) (g : Nat) (y : Ln6) (r : Row w g (lnY y) 48) (c : UInt8) (t : Tok) : Calls Tryz.prog 30 #[.pointer (some ⟨g, 0, none⟩), .int .u8 (c.toNat : Int), tokR t] w (Opd w g (operT y c t)) := by
  by_cases h97 : c = 97
  · subst h97
    cases t with
    | sg d => exact opd97_sg w g y r d
    | num n => exact opd97_num w g y r n
    | reg n => exact opd97_reg w g y r n
    | nm s => exact opd97_nm w g y r s
  by_cases h98 : c = 98
  · subst h98
    cases t with
    | sg d => exact opd98_sg w g y r d
    | num n => exact opd98_num w g y r n
    | reg n => exact opd98_reg w g y r n
    | nm s => exact opd98_nm w g y r s
  by_cases h99 : c = 99
  · subst h99
    cases t with
    | sg d => exact opd99_sg w g y r d
    | num n => exact opd99_num w g y r n
    | reg n => exact opd99_reg w g y r n
    | nm s => exact opd99_nm w g y r s
  by_cases h105 : c = 105
  · subst h105
    cases t with
    | sg d => exact opd105_sg w g y r d
    | num n => exact opd105_num w g y r n
    | reg n => exact opd105_reg w g y r n
    | nm s => exact opd105_nm w g y r s
  have hc : c ≠ 97 ∧ c ≠ 98 ∧ c ≠ 99 ∧ c ≠ 105 := ⟨h97, h98, h99, h105⟩
  cases t with
  | sg d => exact opdo_sg w g y r c _ rfl hc d
  | num n => exact opdo_num w g y r c _ rfl hc n
  | reg n => exact opdo_reg w g y r c _ rfl hc n
  | nm s => exact opdo_nm w g y r c _ rfl hc s

end Go.Proofs.YtecipogfdhpjfaaGreatDoor

/- AsmRefK -/
namespace Go.Proofs.YtecipogfdhpjfaaGreatDoor
open Go.RowKit

/-- A line, as viceroyref06 has it. -/
def lnR (y : Ln6) : List Value := [.string ⟨y.lab.toArray⟩, .bool (decide (y.k ≠ 0)), .int .i64 y.o, .int .i64 y.a, .int .i64 y.b, .int .i64 y.c, .int .i64 y.i, .string ⟨y.nm.toArray⟩, .bool (decide (y.k = 2)), .int .i64 (y.n : Int)]
def flatY (l : List Ln6) : List Value := l.flatMap lnR
theorem flatY_add (l : List Ln6) (y : Ln6) : flatY (l ++ [y]) = flatY l ++ lnR y := by simp [flatY]
theorem flatY_at : ∀ (l : List Ln6) (i : Nat) (y : Ln6), l[i]? = some y → ∀ r, r < 10 → (flatY l)[i * 10 + r]? = (lnR y)[r]?
  | z :: l, 0, y, h, r, hr => by
    simp at h
    subst h
    have e : flatY (z :: l) = lnR z ++ flatY l := by simp [flatY]
    rw [e, Nat.zero_mul, Nat.zero_add, List.getElem?_append_left (by simp [lnR]; omega)]
  | z :: l, i + 1, y, h, r, hr => by
    have e : flatY (z :: l) = lnR z ++ flatY l := by simp [flatY]
    have e2 : (lnR z).length = 10 := rfl
    rw [e, List.getElem?_append_right (by omega), e2, show (i + 1) * 10 + r - 10 = i * 10 + r by omega]
    exact flatY_at l i y (by simpa using h) r hr
  | [], i, y, h, _, _ => by simp at h
/-- Lines of the call's own. -/
def LnS (w : World) (B : Nat) (v : Value) (l : List Ln6) : Prop := OwnK 48 10 w B v l.length (flatY l)
theorem LnS.cells {w : World} {B : Nat} {v : Value} {l : List Ln6} (h : LnS w B v l) : ∃ a cap, v = .slice a l.length cap ∧ ∀ (i : Nat) (y : Ln6), l[i]? = some y → ∃ g, a = some ⟨g, 0, none⟩ ∧ ∀ r, r < 10 → w.cell? ⟨g, i * 10 + r, none⟩ = (lnR y)[r]? := by
  by_cases hn : l.length = 0
  · have := h.2 hn
    refine ⟨none, 0, by rw [this, hn], fun i y hi => ?_⟩
    rw [List.eq_nil_of_length_eq_zero hn] at hi
    simp at hi
  · obtain ⟨g, cap, cur, hv, _, hr, _, _, _, hx⟩ := h.row hn
    refine ⟨_, cap, hv, fun i y hi => ⟨g, rfl, fun r hr' => ?_⟩⟩
    rw [hr.cell]
    have h1 := flatY_at l i y hi r hr'
    have h2 : r < (lnR y).length := hr'
    rw [List.getElem?_eq_getElem h2] at h1 ⊢
    exact hx _ _ h1

def addrI (lab : List UInt8) (l : List Ln6) (at_ : Nat) : Int := match addrT lab l at_ with | some v => (v : Int) | none => -1

set_option maxRecDepth 100000 in
set_option maxHeartbeats 1000000 in
theorem address_ref (w : World) (B : Nat) (v : Value) (l : List Ln6) (h : LnS w B v l) (hl : l.length ≤ 5000) (base : Nat) (hb : base ≤ 65535) (s : ByteArray) :
    Calls Tryz.prog 16 #[.int .i64 (base : Int), v, .string s] w fun e w' => e = .returned (.int .i64 (addrI s.data.toList l base)) ∧ w' = w := by
  obtain ⟨a, cap, rfl, hc⟩ := h.cells
  have HC := hid' hc
  obtain ⟨N, hN⟩ : ∃ N, N = l.length := ⟨_, rfl⟩
  have HN := hid' hN
  rw [← hN] at hl ⊢
  obtain ⟨z, hz⟩ : ∃ z, z = addrI s.data.toList l base := ⟨_, rfl⟩
  have HZ := hid' hz
  rw [← hz]
  clear h hc hN hz
  go_enter Tryz.func16, Tryz.ntmps16
  go_wp2_with fail
  go_loopw [7, 8] (fun x i wr => ∃ (j p : Nat), j ≤ N ∧ p ≤ base + 4 * j ∧ i = .int .i64 (j : Int) ∧ x = .int .i64 (p : Int) ∧ wr = w ∧ Hid (addrI s.data.toList (l.drop j) p = z)) (fun _ i _ => N - (intOf i).toNat)
  case atStart => exact ⟨0, base, by omega, by omega, rfl, rfl, rfl, hid' (by rw [List.drop_zero]; exact HZ.out.symm)⟩
  case round =>
    obtain ⟨j, p, hj, hp, rfl, rfl, rfl, HX⟩ := hrel
    by_cases hlt : j < N
    · have u1 : decide ((j : Int) < (N : Int)) = true := decide_eq_true (by omega)
      have u2 : decide (j < N) = true := decide_eq_true hlt
      have i1 : 0 ≤ (j : Int) ∧ (j : Int) < (N : Int) := by omega
      have hjl : j < l.length := by rw [← HN.out]; exact hlt
      obtain ⟨g, rfl, hcell⟩ := HC.out j l[j] (List.getElem?_eq_getElem hjl)
      have hd : l.drop j = l[j] :: l.drop (j + 1) := List.drop_eq_getElem_cons hjl
      generalize l[j] = y at *
      have c0 : wr.cell? ⟨g, j * 10, none⟩ = some (.string ⟨y.lab.toArray⟩) := hcell 0 (by omega)
      have c1 : wr.cell? ⟨g, j * 10 + 1, none⟩ = some (.bool (decide (y.k ≠ 0))) := hcell 1 (by omega)
      obtain ⟨lb, hlb⟩ : ∃ lb : ByteArray, lb = ⟨y.lab.toArray⟩ := ⟨_, rfl⟩
      rw [← hlb] at c0
      obtain ⟨kb, hkb⟩ : ∃ kb, kb = decide (y.k ≠ 0) := ⟨_, rfl⟩
      rw [← hkb] at c1
      have HX2 := hid' (show addrI s.data.toList (y :: l.drop (j + 1)) p = z by rw [← hd]; exact HX.out)
      have HK := hid' hkb
      by_cases e : y.lab = s.data.toList
      · have ue : (lb.toList == s.toList) = true := by rw [hlb, ByteArray.toList_eq, ByteArray.toList_eq]; simp [e]
        have hz' : z = (p : Int) := by rw [← HX2.out]; unfold addrI addrT; rw [if_pos e]
        subst hz'
        clear hlb hkb hd HX HX2 hcell e
        go_wp2_with fail
        go_ret
        exact ⟨rfl, rfl⟩
      · have ue : (lb.toList == s.toList) = false := by
          rw [hlb, ByteArray.toList_eq, ByteArray.toList_eq]
          simpa using e
        have HX3 := hid' (show addrI s.data.toList (l.drop (j + 1)) (if y.k ≠ 0 then p + 4 else p) = z by rw [← HX2.out]; unfold addrI; rw [addrT, if_neg e])
        clear hlb hd HX HX2 hcell e
        cases kb with
        | true =>
          have hk : y.k ≠ 0 := of_decide_eq_true HK.out.symm
          clear hkb
          go_wp2_with fail
          go_roundw
          case rel => exact ⟨j + 1, p + 4, by omega, by omega, by go_num, by go_num, trivial, hid' (by have := HX3.out; rw [if_pos hk] at this; exact this)⟩
          case measure => simp [intOf]; omega
        | false =>
          have hk : ¬ y.k ≠ 0 := of_decide_eq_false HK.out.symm
          clear hkb
          go_wp2_with fail
          go_roundw
          case rel => exact ⟨j + 1, p, by omega, by omega, by go_num, rfl, trivial, hid' (by have := HX3.out; rw [if_neg hk] at this; exact this)⟩
          case measure => simp [intOf]; omega
    · have u1 : decide ((j : Int) < (N : Int)) = false := decide_eq_false (by omega)
      have u2 : decide (j < N) = false := decide_eq_false hlt
      have hz' : z = -1 := by
        rw [← HX.out, List.drop_eq_nil_of_le (by rw [← HN.out]; omega)]
        rfl
      subst hz'
      clear HX HZ
      go_wp2_with fail
      go_ret
      exact ⟨rfl, rfl⟩

end Go.Proofs.YtecipogfdhpjfaaGreatDoor

/- AsmRefM -/
namespace Go.Proofs.YtecipogfdhpjfaaGreatDoor
open Go.RowKit

/-- As many tokens as signs, or an error. -/
theorem opersT_len : ∀ (cs : List UInt8) (ts : List Tok) (x : Ln6) (e : Nat), cs.length ≠ ts.length → (opersT cs ts x e).1 = 61
  | [], [], _, _, h => absurd rfl h
  | [], _ :: _, _, _, _ => rfl
  | _ :: _, [], _, _, _ => rfl
  | c :: cs, t :: ts, x, e, h => by
    unfold opersT
    split
    · rfl
    · exact opersT_len cs ts _ _ (fun h' => h (by simp [h']))
/-- The loop's step. -/
theorem opersT_stop (c : UInt8) (cs : List UInt8) (t : Tok) (ts : List Tok) (x : Ln6) (e : Nat) (h : (operT x c t).1 = 61) : opersT (c :: cs) (t :: ts) x e = (61, (operT x c t).2) := by rw [opersT, if_pos h]
theorem opersT_go (c : UInt8) (cs : List UInt8) (t : Tok) (ts : List Tok) (x : Ln6) (e : Nat) (h : (operT x c t).1 ≠ 61) : opersT (c :: cs) (t :: ts) x e = opersT cs ts (operT x c t).2 (if (operT x c t).1 ≠ 0 then (operT x c t).1 else e) := by rw [opersT, if_neg h]
/-- operand leaves the kind and the word's number as they are. -/
theorem operT_k (x : Ln6) (c : UInt8) (t : Tok) : (operT x c t).2.k = x.k ∧ (operT x c t).2.lab = x.lab ∧ (operT x c t).2.n = x.n := by
  unfold operT
  split
  · split
    · split
      · exact ⟨rfl, rfl, rfl⟩
      · split
        · exact ⟨rfl, rfl, rfl⟩
        · split <;> exact ⟨rfl, rfl, rfl⟩
    · exact ⟨rfl, rfl, rfl⟩
  · split
    · split
      · exact ⟨rfl, rfl, rfl⟩
      · split <;> exact ⟨rfl, rfl, rfl⟩
      · exact ⟨rfl, rfl, rfl⟩
    · split <;> exact ⟨rfl, rfl, rfl⟩
theorem operT_e (x : Ln6) (c : UInt8) (t : Tok) : (operT x c t).1 = 0 ∨ (operT x c t).1 = 61 ∨ (operT x c t).1 = 63 := by
  unfold operT
  split
  · split
    · split
      · exact Or.inr (Or.inr rfl)
      · exact Or.inl rfl
    · exact Or.inr (Or.inl rfl)
  · split
    · split
      · by_cases h : opOf ‹List UInt8› ≠ 0
        · rw [if_pos h]; exact Or.inr (Or.inl rfl)
        · rw [if_neg h]; exact Or.inl rfl
      · split
        · exact Or.inr (Or.inr rfl)
        · exact Or.inl rfl
      · exact Or.inr (Or.inl rfl)
    · split
      · rename_i d
        by_cases h : d = c
        · rw [if_pos h]; exact Or.inl rfl
        · rw [if_neg h]; exact Or.inr (Or.inl rfl)
      · exact Or.inr (Or.inl rfl)
/-- A line that has an instruction, in both forms. -/
theorem lnY_R (y : Ln6) (h : y.k = 1) : lnY y = (lnR y).toArray := by simp [lnY, lnR, h]

theorem flatT_at : ∀ (l : List Tok) (i : Nat) (t : Tok), l[i]? = some t → ∀ r, r < 3 → (flatT l)[i * 3 + r]? = (tokC t)[r]?
  | z :: l, 0, t, h, r, hr => by
    simp at h
    subst h
    have e : flatT (z :: l) = tokC z ++ flatT l := by simp [flatT]
    rw [e, Nat.zero_mul, Nat.zero_add, List.getElem?_append_left (by rw [tokC_len]; omega)]
  | z :: l, i + 1, t, h, r, hr => by
    have e : flatT (z :: l) = tokC z ++ flatT l := by simp [flatT]
    rw [e, List.getElem?_append_right (by rw [tokC_len]; omega), tokC_len, show (i + 1) * 3 + r - 3 = i * 3 + r by omega]
    exact flatT_at l i t (by simpa using h) r hr
  | [], i, t, h, _, _ => by simp at h

/-- Tokens that lie from a cell on. -/
def TkC (w : World) (a : Option Addr) (o : Nat) (l : List Tok) : Prop := ∀ (i : Nat) (t : Tok), l[i]? = some t → ∃ g, a = some ⟨g, o, none⟩ ∧ g < w.heap.size ∧ ∀ r, r < 3 → w.cell? ⟨g, o + i * 3 + r, none⟩ = (tokC t)[r]?
theorem TkS.cells {w : World} {B : Nat} {v : Value} {l : List Tok} (h : TkS w B v l) : ∃ a cap, v = .slice a l.length cap ∧ l.length ≤ cap ∧ TkC w a 0 l := by
  by_cases hn : l.length = 0
  · have := h.2 hn
    refine ⟨none, 0, by rw [this, hn], by omega, fun i t hi => ?_⟩
    rw [List.eq_nil_of_length_eq_zero hn] at hi
    simp at hi
  · obtain ⟨g, cap, cur, hv, hc, hr, _, _, _, hx⟩ := h.row hn
    refine ⟨_, cap, hv, by omega, fun i t hi => ⟨g, rfl, hr.lt, fun r hr' => ?_⟩⟩
    rw [hr.cell, Nat.zero_add]
    have h1 := flatT_at l i t hi r hr'
    have h2 : r < (tokC t).length := by rw [tokC_len]; exact hr'
    rw [List.getElem?_eq_getElem h2] at h1 ⊢
    exact hx _ _ h1
theorem TkC.keep {w w' : World} {a : Option Addr} {o : Nat} {l : List Tok} (h : TkC w a o l) (k : Fr none' w w') : TkC w' a o l := fun i t hi => by
  obtain ⟨g, e, hg, hc⟩ := h i t hi
  refine ⟨g, e, Nat.lt_of_lt_of_le hg k.size, fun r hr => ?_⟩
  have h1 := hc r hr
  have h2 : r < (tokC t).length := by rw [tokC_len]; exact hr
  rw [List.getElem?_eq_getElem h2] at h1 ⊢
  exact cell_keep k h1 (fun h => h)

end Go.Proofs.YtecipogfdhpjfaaGreatDoor

