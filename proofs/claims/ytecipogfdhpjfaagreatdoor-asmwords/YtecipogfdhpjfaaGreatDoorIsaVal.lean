/-
  The contracts of package isa's parts and pack over the translation, said of plain numbers. No statement is proved here.
-/
import Derived.Test.YtecipogfdhpjfaaGreatDoorIsaKind
import Derived.Laws.ResultCell
import Derived.Laws.Rows
import Derived.Laws.StructEq
import Derived.Deep.RegionHeld3
namespace Go.Proofs.YtecipogfdhpjfaaGreatDoor
open Go.RowKit

/-- An instruction's own box. -/
def ibox (o a b c i : Int) : Array Value := #[.int .i64 o, .int .i64 a, .int .i64 b, .int .i64 c, .int .i64 i]

theorem ibox_cells {w : World} {g : Nat} {o a b c i : Int} (h : Row w g (ibox o a b c i) 46) :
    w.cell? ⟨g, 0, none⟩ = some (.int .i64 o) ∧ w.cell? ⟨g, 1, none⟩ = some (.int .i64 a) ∧ w.cell? ⟨g, 2, none⟩ = some (.int .i64 b) ∧ w.cell? ⟨g, 3, none⟩ = some (.int .i64 c) ∧ w.cell? ⟨g, 4, none⟩ = some (.int .i64 i) :=
  ⟨h.cell 0, h.cell 1, h.cell 2, h.cell 3, h.cell 4⟩
theorem ibox_frozen {w : World} {g : Nat} {cs : Array Value} {t : TypeId} (h : Row w g cs t) :
    w.frozen? ⟨g, 0, none⟩ = false ∧ w.frozen? ⟨g, 1, none⟩ = false ∧ w.frozen? ⟨g, 2, none⟩ = false ∧ w.frozen? ⟨g, 3, none⟩ = false ∧ w.frozen? ⟨g, 4, none⟩ = false :=
  ⟨h.frozen 0, h.frozen 1, h.frozen 2, h.frozen 3, h.frozen 4⟩
def iput (w : World) (g : Nat) (o a b c i : Int) : World := ((((w.setCell ⟨g, 0, none⟩ (.int .i64 o)).setCell ⟨g, 1, none⟩ (.int .i64 a)).setCell ⟨g, 2, none⟩ (.int .i64 b)).setCell ⟨g, 3, none⟩ (.int .i64 c)).setCell ⟨g, 4, none⟩ (.int .i64 i)
theorem ibox_set {w : World} {g : Nat} {o a b c i o' a' b' c' i' : Int} {t : TypeId} (h : Row w g (ibox o a b c i) t) : Row (iput w g o' a' b' c' i') g (ibox o' a' b' c' i') t :=
  ((((h.setCell 0 _).setCell 1 _).setCell 2 _).setCell 3 _).setCell 4 _
theorem ibox_fr {S : Nat → Prop} {w w1 : World} {g : Nat} (o' a' b' c' i' : Int) (h : Fr S w w1) (hb : w.heap.size ≤ g ∨ S g) : Fr S w (iput w1 g o' a' b' c' i') :=
  ((((h.setCell (p := ⟨g, 0, none⟩) hb _).setCell (p := ⟨g, 1, none⟩) hb _).setCell (p := ⟨g, 2, none⟩) hb _).setCell (p := ⟨g, 3, none⟩) hb _).setCell (p := ⟨g, 4, none⟩) hb _
theorem iput_other {w : World} {g g' : Nat} {cs : Array Value} {t : TypeId} (h : Row w g cs t) (hg : g' ≠ g) (o a b c i : Int) : Row (iput w g' o a b c i) g cs t :=
  ((((h.setCell_other (p := ⟨g', 0, none⟩) hg _).setCell_other (p := ⟨g', 1, none⟩) hg _).setCell_other (p := ⟨g', 2, none⟩) hg _).setCell_other (p := ⟨g', 3, none⟩) hg _).setCell_other (p := ⟨g', 4, none⟩) hg _

theorem size_instr : (Tryz.prog.info? 46).map (·.size) = some 5 := by kernel_rfl

/-- An instruction that is answered through a cell. -/
theorem ret_instr {fn : Func} {p : Tmp} {tmps : Array Value} {g : Nat} {cs : Array Value} {w : World} (h : fn.results = #[.cell p 46]) (hp : tmps.getD p undef = .pointer (some ⟨g, 0, none⟩)) (hr : Row w g cs 46) (hs : cs.size = 5) :
    (results fn tmps).run Tryz.prog w = .ok (.agg cs) w :=
  results_cell_row h tmps w g _ cs (0, 0) _ hp hr Tryz.underlying46 rfl (by rw [hs]; exact size_instr)
theorem ret_instr_tmp {fn : Func} {p u : Tmp} {tmps : Array Value} {g : Nat} {cs : Array Value} {w : World} (h : fn.results = #[.cell p 46, .tmp u]) (hp : tmps.getD p undef = .pointer (some ⟨g, 0, none⟩)) (hr : Row w g cs 46) (hs : cs.size = 5) :
    (results fn tmps).run Tryz.prog w = .ok (.tuple #[.agg cs, tmps.getD u undef]) w := by
  rw [results_cell_tmp h, hp]
  simp only [asAddr, Sem.run_pure, Result.andThen]
  rw [run_loadVar_row w g _ 46 cs (0, 0) _ hr Tryz.underlying46 rfl (by rw [hs]; exact size_instr)]

theorem eq_instr (o a b c i o' a' b' c' i' : Int) (w : World) : (binOp .eql 46 (.agg #[.int .i64 o, .int .i64 a, .int .i64 b, .int .i64 c, .int .i64 i]) (.agg #[.int .i64 o', .int .i64 a', .int .i64 b', .int .i64 c', .int .i64 i'])).run Tryz.prog w = .ok (.bool (o == o' && (a == a' && (b == b' && (c == c' && i == i'))))) w := by
  simp [go_sem]
  repeat' split
  all_goals simp_all

/-- A form's sign at p, and which signs stand ahead of p. -/
def fch (k p : Nat) : Nat := ((fs k).data.toList.getD p 0).toNat
def inP (k p c : Nat) : Bool := ((fs k).data.toList.take p).any (fun x => x.toNat == c)
def fsz (k : Nat) : Nat := (fs k).data.toList.length

theorem fsz_eq (k : Nat) : (fs k).size = fsz k := rfl
theorem fch_eq (k p : Nat) (h : p < (fs k).size) : ((fs k)[p]'h).toNat = fch k p := by
  unfold fch
  rw [List.getD_eq_getElem?_getD, List.getElem?_eq_getElem (by simpa using h)]
  rfl
theorem sign_cases : ∀ k : Nat, k < 9 → ∀ p : Nat, p < fsz k → fch k p = 97 ∨ fch k p = 98 ∨ fch k p = 99 ∨ fch k p = 105 ∨ fch k p = 45 := by
  intro k hk
  have : k = 0 ∨ k = 1 ∨ k = 2 ∨ k = 3 ∨ k = 4 ∨ k = 5 ∨ k = 6 ∨ k = 7 ∨ k = 8 := by omega
  rcases this with rfl | rfl | rfl | rfl | rfl | rfl | rfl | rfl | rfl <;> decide +kernel
theorem inP_succ : ∀ k : Nat, k < 9 → ∀ p : Nat, p < fsz k → ∀ c, inP k (p + 1) c = (inP k p c || fch k p == c) := by
  intro k _ p hp c
  unfold inP fch
  rw [List.take_add_one, List.any_append, List.getD_eq_getElem?_getD]
  have : (fs k).data.toList[p]? = some ((fs k).data.toList[p]'hp) := List.getElem?_eq_getElem hp
  rw [this]
  simp
theorem inP_end : ∀ k : Nat, k < 9 → inP k (fsz k) 97 = hA k ∧ inP k (fsz k) 98 = hB k ∧ inP k (fsz k) 99 = hC k ∧ inP k (fsz k) 105 = hI k := by
  intro k hk
  have : k = 0 ∨ k = 1 ∨ k = 2 ∨ k = 3 ∨ k = 4 ∨ k = 5 ∨ k = 6 ∨ k = 7 ∨ k = 8 := by omega
  rcases this with rfl | rfl | rfl | rfl | rfl | rfl | rfl | rfl | rfl <;> decide +kernel
theorem fsz_le : ∀ k : Nat, k < 9 → fsz k ≤ 3 := by
  intro k hk
  have : k = 0 ∨ k = 1 ∨ k = 2 ∨ k = 3 ∨ k = 4 ∨ k = 5 ∨ k = 6 ∨ k = 7 ∨ k = 8 := by omega
  rcases this with rfl | rfl | rfl | rfl | rfl | rfl | rfl | rfl | rfl <;> decide +kernel

/-- What has been taken from a word behind p signs of the form. -/
def tk (k p c : Nat) (n : Int) : Int := if inP k p c then n else 0

theorem tk_same {k p c : Nat} {n : Int} (h : inP k (p + 1) c = inP k p c) : tk k (p + 1) c n = tk k p c n := by unfold tk; rw [h]
theorem tk_yes {k p c : Nat} {n : Int} (h : inP k (p + 1) c = true) : tk k (p + 1) c n = n := by unfold tk; rw [h]; rfl
theorem tk_zero (k c : Nat) (n : Int) : tk k 0 c n = 0 := rfl

set_option maxHeartbeats 1600000 in
theorem pack_any (o a b c i : Int) (w : World) : Calls Tryz.prog 73 #[.agg #[.int .i64 o, .int .i64 a, .int .i64 b, .int .i64 c, .int .i64 i]] w fun e w' => (∃ x : Int, e = .returned (.int .u32 x) ∧ 0 ≤ x ∧ x < 4294967296 ∧ (rightI o a b c i = true → x = wordI o a b c i)) ∧ Fr none' w w' := by
  have f0 := (Fr.refl none' w).alloc (.cells (ibox o a b c i) 46)
  unfold ibox at f0
  go_enter Tryz.func73, Tryz.ntmps73
  go_wp2
  go_ret
  refine ⟨⟨_, rfl, (bits_range _ _ _).1, (bits_range _ _ _).2, fun h => ?_⟩, f0⟩
  obtain ⟨h1, h2, h3, h4, h5, h6⟩ := right_bounds h
  rw [← join_word h, show o % 4294967296 * 16777216 % 4294967296 = o * 16777216 by omega, show a % 4294967296 * 1048576 % 4294967296 = a * 1048576 by omega, show b % 4294967296 * 65536 % 4294967296 = b * 65536 by omega, show c % 4294967296 = c by omega, show i % 4294967296 = i by omega]

theorem fr_set1 {S : Nat → Prop} {w w1 : World} {g : Nat} (h : Fr S w w1) (hb : w.heap.size ≤ g ∨ S g) (j : Nat) (v : Value) : Fr S w (w1.setCell ⟨g, j, none⟩ v) := h.setCell (p := ⟨g, j, none⟩) hb v

set_option maxHeartbeats 1600000 in
theorem parts_any (x : Nat) (w : World) (hx : x < 4294967296) :
    Calls Tryz.prog 53 #[.int .u32 (x : Int)] w fun e w' => e = .returned (.agg #[.int .i64 (qo x), .int .i64 (qa x), .int .i64 (qb x), .int .i64 (qc x), .int .i64 (qi x)]) ∧ Fr none' w w' := by
  have b1 : bits .and .u32 ((x : Int) / 1048576) 15 = (x : Int) / 1048576 % 16 := by
    have := and32_15 (x / 1048576) (by omega)
    rw [show ((x / 1048576 : Nat) : Int) = (x : Int) / 1048576 by omega] at this
    rw [this]; omega
  have b2 : bits .and .u32 ((x : Int) / 65536) 15 = (x : Int) / 65536 % 16 := by
    have := and32_15 (x / 65536) (by omega)
    rw [show ((x / 65536 : Nat) : Int) = (x : Int) / 65536 by omega] at this
    rw [this]; omega
  have b3 : bits .and .u32 (x : Int) 15 = (x : Int) % 16 := by
    have := and32_15 x hx
    rw [this]; omega
  have b4 : bits .and .u32 (x : Int) 65535 = (x : Int) % 65536 := by
    have := and32_65535 x hx
    rw [this]; omega
  have hk : kf (qo x) < 9 := by have := kf_le (qo x); omega
  have Z : Hid (qa x = tk (kf (qo x)) (fsz (kf (qo x))) 97 ((x : Int) / 1048576 % 16) ∧ qb x = tk (kf (qo x)) (fsz (kf (qo x))) 98 ((x : Int) / 65536 % 16) ∧ qc x = tk (kf (qo x)) (fsz (kf (qo x))) 99 ((x : Int) % 16) ∧ qi x = tk (kf (qo x)) (fsz (kf (qo x))) 105 ((x : Int) % 65536)) := by
    obtain ⟨z1, z2, z3, z4⟩ := inP_end (kf (qo x)) hk
    unfold tk qa qb qc qi
    rw [z1, z2, z3, z4]
    exact ⟨rfl, rfl, rfl, rfl⟩
  have f0 := ((Fr.refl none' w).alloc (.cells (ibox 0 0 0 0 0) 46)).alloc (.cells (ibox (qo x) 0 0 0 0) 46)
  have r0 := (row_alloc w (ibox 0 0 0 0 0) 46).alloc (.cells (ibox (qo x) 0 0 0 0) 46)
  have q0 := row_alloc (w.alloc (.cells (ibox 0 0 0 0 0) 46)) (ibox (qo x) 0 0 0 0) 46
  rw [show (w.alloc (.cells (ibox 0 0 0 0 0) 46)).heap.size = w.heap.size + 1 by simp] at q0
  have K0 := kind_any (qo x) ((w.alloc (.cells (ibox 0 0 0 0 0) 46)).alloc (.cells (ibox (qo x) 0 0 0 0) 46))
  generalize hkk : kf (qo x) = k at *
  clear hkk
  go_enter Tryz.func53, Tryz.ntmps53
  go_wp2_with (go_at_call 21; refine K0.mono ?_; rintro e w1 ⟨rfl, f1⟩; clear K0; replace r0 := r0.keep f1 (fun h => h); replace q0 := q0.keep f1 (fun h => h); have s1 := f1.size; replace f0 := f0.trans f1; clear f1)
  have hg : w.heap.size + 2 ≤ w1.heap.size := by simp at s1; omega
  have HG : Hid (w.heap.size + 2 ≤ w1.heap.size) := hg
  have HX : Hid (x < 4294967296) := hx
  clear s1 hg
  go_loopw [5] (fun _ wr => ∃ p : Nat, p ≤ fsz k ∧ Fr none' w wr ∧ It wr w1.heap.size (fs k) p ∧ Row wr w.heap.size (ibox 0 0 0 0 0) 46 ∧ Row wr (w.heap.size + 1) (ibox (qo x) (tk k p 97 ((x : Int) / 1048576 % 16)) (tk k p 98 ((x : Int) / 65536 % 16)) (tk k p 99 ((x : Int) % 16)) (tk k p 105 ((x : Int) % 65536))) 46) (fun _ wr => 4 - itPos wr w1.heap.size)
  case atStart => exact ⟨0, Nat.zero_le _, f0.alloc _, it_new w1 _, r0.alloc _, q0.alloc _⟩
  case round =>
    clear f0 r0 q0
    obtain ⟨p, hp, fk, ik, r2, r3⟩ := hrel
    have M1 : Hid (itPos wr w1.heap.size = p) := ik.pos
    by_cases hlt : p < fsz k
    · have hs : p < (fs k).size := hlt
      have h128 : fch k p < 128 := by have := sign_cases k hk p hlt; omega
      have hn := fun ty => next_some (P := Tryz.prog) ik hs (by rw [fch_eq]; exact h128) ty
      rw [fch_eq] at hn
      have I2 : Hid (It (itSet wr w1.heap.size (fs k) (p + 1)) w1.heap.size (fs k) (p + 1)) := ik.set (p + 1)
      have f2 := fr_itset fk (Or.inl (by have := HG.out; omega)) (fs k) (p + 1) (g := w1.heap.size)
      have R2 : Hid (Row (itSet wr w1.heap.size (fs k) (p + 1)) w.heap.size (ibox 0 0 0 0 0) 46) := r2.itset ik _
      have R3 : Hid (Row (itSet wr w1.heap.size (fs k) (p + 1)) (w.heap.size + 1) (ibox (qo x) (tk k p 97 ((x : Int) / 1048576 % 16)) (tk k p 98 ((x : Int) / 65536 % 16)) (tk k p 99 ((x : Int) % 16)) (tk k p 105 ((x : Int) % 65536))) 46) := r3.itset ik _
      obtain ⟨c0, c1, c2, c3, c4⟩ := ibox_cells R3.out
      obtain ⟨k0, k1, k2, k3, k4⟩ := ibox_frozen R3.out
      have HL : Hid (p < fsz k ∧ fsz k ≤ 3) := ⟨hlt, fsz_le k hk⟩
      clear h128 hs fk ik r2 r3 hp
      rcases sign_cases k hk p hlt with hc | hc | hc | hc | hc
      · have e97 : tk k (p + 1) 97 ((x : Int) / 1048576 % 16) = ((x : Int) / 1048576 % 16) := tk_yes (by rw [inP_succ k hk p hlt, hc]; simp)
        have e98 : tk k (p + 1) 98 ((x : Int) / 65536 % 16) = tk k p 98 ((x : Int) / 65536 % 16) := tk_same (by rw [inP_succ k hk p hlt, hc]; simp)
        have e99 : tk k (p + 1) 99 ((x : Int) % 16) = tk k p 99 ((x : Int) % 16) := tk_same (by rw [inP_succ k hk p hlt, hc]; simp)
        have e105 : tk k (p + 1) 105 ((x : Int) % 65536) = tk k p 105 ((x : Int) % 65536) := tk_same (by rw [inP_succ k hk p hlt, hc]; simp)
        have E : Hid (tk k (p + 1) 97 ((x : Int) / 1048576 % 16) = ((x : Int) / 1048576 % 16) ∧ tk k (p + 1) 98 ((x : Int) / 65536 % 16) = tk k p 98 ((x : Int) / 65536 % 16) ∧ tk k (p + 1) 99 ((x : Int) % 16) = tk k p 99 ((x : Int) % 16) ∧ tk k (p + 1) 105 ((x : Int) % 65536) = tk k p 105 ((x : Int) % 65536)) := ⟨e97, e98, e99, e105⟩
        clear e97 e98 e99 e105
        rw [hc] at hn
        clear hc
        go_wp2
        go_roundw
        case rel =>
          refine ⟨p + 1, by have := HL.out; omega, fr_set1 f2 (Or.inl (by omega)) _ _, I2.out.setCell R3.out _ _, R2.out.setCell_other (by simp) _, ?_⟩
          obtain ⟨e1, e2, e3, e4⟩ := E.out
          rw [e1, e2, e3, e4]
          exact R3.out.setCell 1 _
        case measure => rw [(I2.out.setCell R3.out _ _).pos, M1.out]; have := HL.out; omega
      · have e97 : tk k (p + 1) 97 ((x : Int) / 1048576 % 16) = tk k p 97 ((x : Int) / 1048576 % 16) := tk_same (by rw [inP_succ k hk p hlt, hc]; simp)
        have e98 : tk k (p + 1) 98 ((x : Int) / 65536 % 16) = ((x : Int) / 65536 % 16) := tk_yes (by rw [inP_succ k hk p hlt, hc]; simp)
        have e99 : tk k (p + 1) 99 ((x : Int) % 16) = tk k p 99 ((x : Int) % 16) := tk_same (by rw [inP_succ k hk p hlt, hc]; simp)
        have e105 : tk k (p + 1) 105 ((x : Int) % 65536) = tk k p 105 ((x : Int) % 65536) := tk_same (by rw [inP_succ k hk p hlt, hc]; simp)
        have E : Hid (tk k (p + 1) 97 ((x : Int) / 1048576 % 16) = tk k p 97 ((x : Int) / 1048576 % 16) ∧ tk k (p + 1) 98 ((x : Int) / 65536 % 16) = ((x : Int) / 65536 % 16) ∧ tk k (p + 1) 99 ((x : Int) % 16) = tk k p 99 ((x : Int) % 16) ∧ tk k (p + 1) 105 ((x : Int) % 65536) = tk k p 105 ((x : Int) % 65536)) := ⟨e97, e98, e99, e105⟩
        clear e97 e98 e99 e105
        rw [hc] at hn
        clear hc
        go_wp2
        go_roundw
        case rel =>
          refine ⟨p + 1, by have := HL.out; omega, fr_set1 f2 (Or.inl (by omega)) _ _, I2.out.setCell R3.out _ _, R2.out.setCell_other (by simp) _, ?_⟩
          obtain ⟨e1, e2, e3, e4⟩ := E.out
          rw [e1, e2, e3, e4]
          exact R3.out.setCell 2 _
        case measure => rw [(I2.out.setCell R3.out _ _).pos, M1.out]; have := HL.out; omega
      · have e97 : tk k (p + 1) 97 ((x : Int) / 1048576 % 16) = tk k p 97 ((x : Int) / 1048576 % 16) := tk_same (by rw [inP_succ k hk p hlt, hc]; simp)
        have e98 : tk k (p + 1) 98 ((x : Int) / 65536 % 16) = tk k p 98 ((x : Int) / 65536 % 16) := tk_same (by rw [inP_succ k hk p hlt, hc]; simp)
        have e99 : tk k (p + 1) 99 ((x : Int) % 16) = ((x : Int) % 16) := tk_yes (by rw [inP_succ k hk p hlt, hc]; simp)
        have e105 : tk k (p + 1) 105 ((x : Int) % 65536) = tk k p 105 ((x : Int) % 65536) := tk_same (by rw [inP_succ k hk p hlt, hc]; simp)
        have E : Hid (tk k (p + 1) 97 ((x : Int) / 1048576 % 16) = tk k p 97 ((x : Int) / 1048576 % 16) ∧ tk k (p + 1) 98 ((x : Int) / 65536 % 16) = tk k p 98 ((x : Int) / 65536 % 16) ∧ tk k (p + 1) 99 ((x : Int) % 16) = ((x : Int) % 16) ∧ tk k (p + 1) 105 ((x : Int) % 65536) = tk k p 105 ((x : Int) % 65536)) := ⟨e97, e98, e99, e105⟩
        clear e97 e98 e99 e105
        rw [hc] at hn
        clear hc
        go_wp2
        go_roundw
        case rel =>
          refine ⟨p + 1, by have := HL.out; omega, fr_set1 f2 (Or.inl (by omega)) _ _, I2.out.setCell R3.out _ _, R2.out.setCell_other (by simp) _, ?_⟩
          obtain ⟨e1, e2, e3, e4⟩ := E.out
          rw [e1, e2, e3, e4]
          exact R3.out.setCell 3 _
        case measure => rw [(I2.out.setCell R3.out _ _).pos, M1.out]; have := HL.out; omega
      · have e97 : tk k (p + 1) 97 ((x : Int) / 1048576 % 16) = tk k p 97 ((x : Int) / 1048576 % 16) := tk_same (by rw [inP_succ k hk p hlt, hc]; simp)
        have e98 : tk k (p + 1) 98 ((x : Int) / 65536 % 16) = tk k p 98 ((x : Int) / 65536 % 16) := tk_same (by rw [inP_succ k hk p hlt, hc]; simp)
        have e99 : tk k (p + 1) 99 ((x : Int) % 16) = tk k p 99 ((x : Int) % 16) := tk_same (by rw [inP_succ k hk p hlt, hc]; simp)
        have e105 : tk k (p + 1) 105 ((x : Int) % 65536) = ((x : Int) % 65536) := tk_yes (by rw [inP_succ k hk p hlt, hc]; simp)
        have E : Hid (tk k (p + 1) 97 ((x : Int) / 1048576 % 16) = tk k p 97 ((x : Int) / 1048576 % 16) ∧ tk k (p + 1) 98 ((x : Int) / 65536 % 16) = tk k p 98 ((x : Int) / 65536 % 16) ∧ tk k (p + 1) 99 ((x : Int) % 16) = tk k p 99 ((x : Int) % 16) ∧ tk k (p + 1) 105 ((x : Int) % 65536) = ((x : Int) % 65536)) := ⟨e97, e98, e99, e105⟩
        clear e97 e98 e99 e105
        rw [hc] at hn
        clear hc
        go_wp2
        go_roundw
        case rel =>
          refine ⟨p + 1, by have := HL.out; omega, fr_set1 f2 (Or.inl (by omega)) _ _, I2.out.setCell R3.out _ _, R2.out.setCell_other (by simp) _, ?_⟩
          obtain ⟨e1, e2, e3, e4⟩ := E.out
          rw [e1, e2, e3, e4]
          exact R3.out.setCell 4 _
        case measure => rw [(I2.out.setCell R3.out _ _).pos, M1.out]; have := HL.out; omega
      · have e97 : tk k (p + 1) 97 ((x : Int) / 1048576 % 16) = tk k p 97 ((x : Int) / 1048576 % 16) := tk_same (by rw [inP_succ k hk p hlt, hc]; simp)
        have e98 : tk k (p + 1) 98 ((x : Int) / 65536 % 16) = tk k p 98 ((x : Int) / 65536 % 16) := tk_same (by rw [inP_succ k hk p hlt, hc]; simp)
        have e99 : tk k (p + 1) 99 ((x : Int) % 16) = tk k p 99 ((x : Int) % 16) := tk_same (by rw [inP_succ k hk p hlt, hc]; simp)
        have e105 : tk k (p + 1) 105 ((x : Int) % 65536) = tk k p 105 ((x : Int) % 65536) := tk_same (by rw [inP_succ k hk p hlt, hc]; simp)
        have E : Hid (tk k (p + 1) 97 ((x : Int) / 1048576 % 16) = tk k p 97 ((x : Int) / 1048576 % 16) ∧ tk k (p + 1) 98 ((x : Int) / 65536 % 16) = tk k p 98 ((x : Int) / 65536 % 16) ∧ tk k (p + 1) 99 ((x : Int) % 16) = tk k p 99 ((x : Int) % 16) ∧ tk k (p + 1) 105 ((x : Int) % 65536) = tk k p 105 ((x : Int) % 65536)) := ⟨e97, e98, e99, e105⟩
        clear e97 e98 e99 e105
        rw [hc] at hn
        clear hc
        go_wp2
        go_roundw
        case rel =>
          refine ⟨p + 1, by have := HL.out; omega, f2, I2.out, R2.out, ?_⟩
          obtain ⟨e1, e2, e3, e4⟩ := E.out
          rw [e1, e2, e3, e4]
          exact R3.out
        case measure => rw [I2.out.pos, M1.out]; have := HL.out; omega
    · obtain rfl : p = fsz k := by omega
      have hn := fun ty => next_none (P := Tryz.prog) ik (by rw [fsz_eq]; omega) ty
      have R2 : Hid (Row wr w.heap.size (ibox 0 0 0 0 0) 46) := r2
      have R3 : Hid (Row wr (w.heap.size + 1) (ibox (qo x) (tk k (fsz k) 97 ((x : Int) / 1048576 % 16)) (tk k (fsz k) 98 ((x : Int) / 65536 % 16)) (tk k (fsz k) 99 ((x : Int) % 16)) (tk k (fsz k) 105 ((x : Int) % 65536))) 46) := r3
      obtain ⟨c0, c1, c2, c3, c4⟩ := ibox_cells r3
      obtain ⟨d0, d1, d2, d3, d4⟩ := ibox_cells r2
      obtain ⟨k0, k1, k2, k3, k4⟩ := ibox_frozen r2
      clear ik r2 r3 hp hlt
      go_wp2
      refine bodyPost_ret (ret_instr rfl rfl (ibox_set R2.out) rfl) rfl ?_
      obtain ⟨z1, z2, z3, z4⟩ := Z.out
      rw [z1, z2, z3, z4]
      exact ⟨rfl, ibox_fr _ _ _ _ _ fk (Or.inl (Nat.le_refl _))⟩

end Go.Proofs.YtecipogfdhpjfaaGreatDoor
