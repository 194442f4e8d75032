/-
  The contract of the library's ContainsRune over the translation at a rune that is no ASCII, in a text that is. No statement is proved here.
-/
import Derived.Test.YtecipogfdhpjfaaGreatDoorAsmEnv
import Derived.Laws.Runes
import Derived.WalkMore
namespace Go.Proofs.YtecipogfdhpjfaaGreatDoor
open Go.RowKit

set_option maxHeartbeats 800000 in
theorem valid_any (r : Int) (h : 128 ≤ r) (w : World) : Calls Tryz.prog 113 #[.int .i32 r] w fun e w' => e = .returned (.bool (decide (r < 55296) || (decide (57343 < r) && decide (r ≤ 1114111)))) ∧ w' = w := by
  have t0 : decide (0 ≤ r) = true := by simp; omega
  by_cases h1 : r < 55296
  · have t1 : decide (r < 55296) = true := by simpa using h1
    rw [t1]
    clear h h1
    go_enter Tryz.func113, Tryz.ntmps113
    go_wp2
    go_ret
    exact ⟨rfl, rfl⟩
  · have t1 : decide (r < 55296) = false := by simpa using h1
    rw [t1]
    clear h h1
    by_cases h2 : 57343 < r
    · have t2 : decide (57343 < r) = true := by simpa using h2
      rw [t2]
      clear h2
      by_cases h3 : r ≤ 1114111
      · have t3 : decide (r ≤ 1114111) = true := by simpa using h3
        rw [t3]
        clear h3
        go_enter Tryz.func113, Tryz.ntmps113
        go_wp2
        go_ret
        exact ⟨rfl, rfl⟩
      · have t3 : decide (r ≤ 1114111) = false := by simpa using h3
        rw [t3]
        clear h3
        go_enter Tryz.func113, Tryz.ntmps113
        go_wp2
        go_ret
        exact ⟨rfl, rfl⟩
    · have t2 : decide (57343 < r) = false := by simpa using h2
      rw [t2]
      clear h2
      go_enter Tryz.func113, Tryz.ntmps113
      go_wp2
      go_ret
      exact ⟨rfl, rfl⟩

def sgB : ByteArray := { data := #[58, 44, 91, 93, 43] }
def blB : ByteArray := { data := #[32] }

theorem ib_none (c : UInt8) (hc : 128 ≤ c.toNat) : ∀ l : List UInt8, (∀ b ∈ l, b.toNat < 128) → Lib.indexByte l c = -1
  | [], _ => rfl
  | b :: l, h => by
    have hb : b ≠ c := fun e => by have := h b (by simp); rw [e] at this; omega
    unfold Lib.indexByte
    rw [ib_none c hc l (fun x hx => h x (by simp [hx]))]
    simp [hb]

set_option maxRecDepth 100000 in
set_option maxHeartbeats 3200000 in
theorem irune_err (s : ByteArray) (hs : s = sgB ∨ s = blB) (w : World) : Calls Tryz.prog 95 #[.string s, .int .i32 65533] w fun e w' => e = .returned (.int .i64 (-1)) ∧ Fr none' w w' := by
  have ha : ∀ c ∈ s.data.toList, c.toNat < 128 := by
    rcases hs with rfl | rfl
    · decide
    · decide
  have HA : Hid (∀ c ∈ s.data.toList, c.toNat < 128) := ha
  clear ha hs
  go_enter Tryz.func95, Tryz.ntmps95
  go_wp2_with fail
  go_loopw [] (fun wr => ∃ p : Nat, p ≤ s.size ∧ Fr none' w wr ∧ It wr w.heap.size s p) (fun wr => s.size - itPos wr w.heap.size)
  case atStart => exact ⟨0, by omega, (Fr.refl _ _).alloc _, it_new w s⟩
  case round =>
    obtain ⟨p, hp, fk, ik⟩ := hrel
    have M : Hid (itPos wr w.heap.size = p) := ik.pos
    by_cases he : p = s.size
    · subst he
      have hn := fun ty => next_none (P := Tryz.prog) ik (by omega) ty
      clear hp ik M
      go_wp2
      go_ret
      exact ⟨rfl, fk⟩
    · have hs : p < s.size := by omega
      have hc : (s[p]'hs).toNat < 128 := HA.out _ (List.mem_of_getElem? (Lib.data_getElem? s p hs))
      have hn := fun ty => next_some (P := Tryz.prog) ik hs hc ty
      have i2 := ik.set (p + 1)
      have f2 := fr_itset fk (Or.inl (Nat.le_refl _)) s (p + 1)
      have M2 : Hid (itPos (itSet wr w.heap.size s (p + 1)) w.heap.size = p + 1) := i2.pos
      have I2 : Hid (It (itSet wr w.heap.size s (p + 1)) w.heap.size s (p + 1)) := i2
      obtain ⟨c, hcc⟩ : ∃ c, s[p]'hs = c := ⟨_, rfl⟩
      rw [hcc] at hn hc
      have t1 : ((c.toNat : Int) == 65533) = false := by simp; omega
      have HP : Hid (p < s.size) := hs
      have M1 := M
      clear hcc hc hs he hp ik fk M i2
      go_wp2
      go_roundw
      case rel => exact ⟨p + 1, by have := HP.out; omega, f2, I2.out⟩
      case measure => rw [M2.out, M1.out]; have := HP.out; omega

theorem enc_forms (r : Int) (hv : Utf8.valid r = true) (h128 : 128 ≤ r) : ∃ x : UInt8, 128 ≤ x.toNat ∧ ((∃ a, Utf8.encode r = ⟨#[a, x]⟩) ∨ (∃ a b, Utf8.encode r = ⟨#[a, b, x]⟩) ∨ ∃ a b c, Utf8.encode r = ⟨#[a, b, c, x]⟩) := by
  have hc : ¬ r.toNat < 128 := by omega
  have hx : ∀ n : Nat, 128 ≤ (UInt8.ofNat (128 + n % 64)).toNat := fun n => by
    have : n % 64 < 64 := Nat.mod_lt _ (by omega)
    simp
    omega
  unfold Utf8.encode
  simp only [hv, if_true, hc, if_false]
  split
  · exact ⟨_, hx r.toNat, Or.inl ⟨_, rfl⟩⟩
  · split
    · exact ⟨_, hx r.toNat, Or.inr (Or.inl ⟨_, _, rfl⟩)⟩
    · exact ⟨_, hx r.toNat, Or.inr (Or.inr ⟨_, _, _, rfl⟩)⟩

set_option maxRecDepth 100000 in
set_option maxHeartbeats 3200000 in
theorem irune_high (s : ByteArray) (hs : s = sgB ∨ s = blB) (r : Int) (h : 128 ≤ r) (hne : r ≠ 65533) (w : World) : Calls Tryz.prog 95 #[.string s, .int .i32 r] w fun e w' => e = .returned (.int .i64 (-1)) ∧ Fr none' w w' := by
  have hV := fun w => valid_any r h w
  have t0 : decide (0 ≤ r) = true := by simp; omega
  have t1 : decide (r < 128) = false := by simp; omega
  have t2 : (r == 65533) = false := by simpa using hne
  obtain ⟨v, hv⟩ : ∃ v, (decide (r < 55296) || (decide (57343 < r) && decide (r ≤ 1114111))) = v := ⟨_, rfl⟩
  rw [hv] at hV
  cases v
  · clear hs hv h hne
    go_enter Tryz.func95, Tryz.ntmps95
    go_wp2_with (first | (go_at_call 113; refine (hV _).mono ?_; rintro e w1 ⟨rfl, rfl⟩))
    go_ret
    exact ⟨rfl, Fr.refl _ _⟩
  · have hE := enc_forms r (by
      rw [validRune_eq]
      simp only [Bool.or_eq_true, Bool.and_eq_true, decide_eq_true_eq] at hv
      simp only [validRune, decide_eq_true_eq]
      omega) h
    have hcv := fun w => run_convert_int_string (P := Tryz.prog) w 21 9 .i32 r (by rw [Tryz.underlying21]; rfl) Tryz.underlying9
    obtain ⟨x, hx2, hE⟩ := hE
    have hIb : ∀ (a : ByteArray) (ha : ∀ b ∈ a.data.toList, b.toNat < 128) (w : World), Calls Tryz.prog 112 #[.string a, .int .u8 (x.toNat : Int)] w fun e w' => e = .returned (.int .i64 (-1)) ∧ w' = w := fun a ha w => by
      have := Tryz.strings_IndexByte a (x.toNat : Int) w
      rw [show ((x.toNat : Int).toNat.toUInt8) = x by simp, ib_none x hx2 _ ha] at this
      exact this
    clear hv h hne
    rcases hs with rfl | rfl
    · unfold sgB
      rcases hE with ⟨a, hE⟩ | ⟨a, b, hE⟩ | ⟨a, b, c, hE⟩
      · rw [hE] at hcv
        have m1 : ((({ data := #[58, 44, 91, 93, 43] } : ByteArray)[1].toNat : Int) != ((({ data := #[a, x] } : ByteArray)[1]'(show 1 < 2 by omega)).toNat : Int)) = true := by
          show ((44 : Int) != (x.toNat : Int)) = true
          simp
          omega
        clear hE hx2
        go_enter Tryz.func95, Tryz.ntmps95
        go_wp2_with (first | (go_at_call 113; refine (hV _).mono ?_; rintro e w1 ⟨rfl, rfl⟩))
        go_step3
        go_wp2_with fail
        refine wp_loop_rounds 1 ?_
        rw [rounds_succ]
        go_wp2_with fail
        go_step3
        go_wp2_with fail
        go_region
        all_goals go_wp2_with fail
        all_goals go_region_with (first | (go_at_call 112; refine (hIb _ (by decide) _).mono ?_; rintro e w1 ⟨rfl, rfl⟩))
        all_goals go_wp2_with fail
        all_goals simp only [Exit.noGoto, Exit.inBlock, Exit.then]
        all_goals go_ret
        all_goals exact ⟨rfl, ⟨rfl, rfl, rfl, Nat.le_refl _, fun _ _ _ => rfl⟩⟩
      · rw [hE] at hcv
        have m1 : ((({ data := #[58, 44, 91, 93, 43] } : ByteArray)[2].toNat : Int) != ((({ data := #[a, b, x] } : ByteArray)[2]'(show 2 < 3 by omega)).toNat : Int)) = true := by
          show ((91 : Int) != (x.toNat : Int)) = true
          simp
          omega
        clear hE hx2
        go_enter Tryz.func95, Tryz.ntmps95
        go_wp2_with (first | (go_at_call 113; refine (hV _).mono ?_; rintro e w1 ⟨rfl, rfl⟩))
        go_step3
        go_wp2_with fail
        refine wp_loop_rounds 1 ?_
        rw [rounds_succ]
        go_wp2_with fail
        go_step3
        go_wp2_with fail
        go_region
        all_goals go_wp2_with fail
        all_goals go_region_with (first | (go_at_call 112; refine (hIb _ (by decide) _).mono ?_; rintro e w1 ⟨rfl, rfl⟩))
        all_goals go_wp2_with fail
        all_goals simp only [Exit.noGoto, Exit.inBlock, Exit.then]
        all_goals go_ret
        all_goals exact ⟨rfl, ⟨rfl, rfl, rfl, Nat.le_refl _, fun _ _ _ => rfl⟩⟩
      · rw [hE] at hcv
        have m1 : ((({ data := #[58, 44, 91, 93, 43] } : ByteArray)[3].toNat : Int) != ((({ data := #[a, b, c, x] } : ByteArray)[3]'(show 3 < 4 by omega)).toNat : Int)) = true := by
          show ((93 : Int) != (x.toNat : Int)) = true
          simp
          omega
        clear hE hx2
        go_enter Tryz.func95, Tryz.ntmps95
        go_wp2_with (first | (go_at_call 113; refine (hV _).mono ?_; rintro e w1 ⟨rfl, rfl⟩))
        go_step3
        go_wp2_with fail
        refine wp_loop_rounds 1 ?_
        rw [rounds_succ]
        go_wp2_with fail
        go_step3
        go_wp2_with fail
        go_region
        all_goals go_wp2_with fail
        all_goals go_region_with (first | (go_at_call 112; refine (hIb _ (by decide) _).mono ?_; rintro e w1 ⟨rfl, rfl⟩))
        all_goals go_wp2_with fail
        all_goals simp only [Exit.noGoto, Exit.inBlock, Exit.then]
        all_goals go_ret
        all_goals exact ⟨rfl, ⟨rfl, rfl, rfl, Nat.le_refl _, fun _ _ _ => rfl⟩⟩
    · unfold blB
      clear hx2 hIb
      rcases hE with ⟨a, hE⟩ | ⟨a, b, hE⟩ | ⟨a, b, c, hE⟩
      all_goals rw [hE] at hcv
      all_goals clear hE
      all_goals go_enter Tryz.func95, Tryz.ntmps95
      all_goals go_wp2_with (first | (go_at_call 113; refine (hV _).mono ?_; rintro e w1 ⟨rfl, rfl⟩))
      all_goals go_step3
      all_goals go_wp2_with fail
      all_goals refine wp_loop_rounds 1 ?_
      all_goals rw [rounds_succ]
      all_goals go_wp2
      all_goals rw [Exit.noGoto_ret]
      all_goals go_ret
      all_goals exact ⟨rfl, Fr.refl _ _⟩

end Go.Proofs.YtecipogfdhpjfaaGreatDoor
