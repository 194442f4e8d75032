/-
  Contracts of package cspace's take and step over the translation. No statement is proved here.
-/
import Derived.Test.YtibdkadojoeopaaCsPut
namespace Go.Proofs.Ytibdkadojoeopaa
open Go.RowKit Go.Maps Go.WideMaps

theorem size_adr : (Try.prog.info? 76).map (·.size) = some 2 := by kernel_rfl
theorem size_ref : (Try.prog.info? 32).map (·.size) = some 2 := by kernel_rfl

theorem load_adr {w : World} {g : Nat} {cs : Array Value} (hr : Row w g cs 76) (hs : cs.size = 2) : (loadVar 76 ⟨g, 0, none⟩).run Try.prog w = .ok (.agg cs) w :=
  run_loadVar_row w g _ 76 cs (0, 0) _ hr Try.underlying76 rfl (by rw [hs]; exact size_adr)
theorem load_ref {w : World} {g : Nat} {cs : Array Value} (hr : Row w g cs 32) (hs : cs.size = 2) : (loadVar 32 ⟨g, 0, none⟩).run Try.prog w = .ok (.agg cs) w :=
  run_loadVar_row w g _ 32 cs (0, 0) _ hr Try.underlying32 rfl (by rw [hs]; exact size_ref)

theorem ret_take {fn : Func} {t u p : Tmp} {tmps : Array Value} {g : Nat} {cs : Array Value} {w : World} (h : fn.results = #[.tmp t, .cell p 76, .tmp u]) (hp : tmps.getD p undef = .pointer (some ⟨g, 0, none⟩)) (hr : Row w g cs 76) (hs : cs.size = 2) :
    (results fn tmps).run Try.prog w = .ok (.tuple #[tmps.getD t undef, .agg cs, tmps.getD u undef]) w := by
  have hl := load_adr hr hs
  have hp' : tmps[p]?.getD undef = .pointer (some ⟨g, 0, none⟩) := by simpa using hp
  simp only [results, h]
  simp [Result.andThen, hp', asAddr, hl]

theorem ret_step {fn : Func} {q p u : Tmp} {tmps : Array Value} {g g' : Nat} {cs cs' : Array Value} {w : World} (h : fn.results = #[.cell q 32, .cell p 76, .tmp u]) (hq : tmps.getD q undef = .pointer (some ⟨g', 0, none⟩)) (hr' : Row w g' cs' 32) (hs' : cs'.size = 2)
    (hp : tmps.getD p undef = .pointer (some ⟨g, 0, none⟩)) (hr : Row w g cs 76) (hs : cs.size = 2) :
    (results fn tmps).run Try.prog w = .ok (.tuple #[.agg cs', .agg cs, tmps.getD u undef]) w := by
  have hl := load_adr hr hs
  have hl' := load_ref hr' hs'
  have hp' : tmps[p]?.getD undef = .pointer (some ⟨g, 0, none⟩) := by simpa using hp
  have hq' : tmps[q]?.getD undef = .pointer (some ⟨g', 0, none⟩) := by simpa using hq
  simp only [results, h]
  simp [Sem.run_bind, Result.andThen, hp', hq', asAddr, hl, hl']

/-- A slot's name, a number, an error. -/
theorem ret_rtt {fn : Func} {q t u : Tmp} {tmps : Array Value} {g' : Nat} {cs' : Array Value} {w : World} (h : fn.results = #[.cell q 32, .tmp t, .tmp u]) (hq : tmps.getD q undef = .pointer (some ⟨g', 0, none⟩)) (hr' : Row w g' cs' 32) (hs' : cs'.size = 2) :
    (results fn tmps).run Try.prog w = .ok (.tuple #[.agg cs', tmps.getD t undef, tmps.getD u undef]) w := by
  have hl' := load_ref hr' hs'
  have hq' : tmps[q]?.getD undef = .pointer (some ⟨g', 0, none⟩) := by simpa using hq
  simp only [results, h]
  simp [Result.andThen, hq', asAddr, hl']

theorem ret_rt {fn : Func} {q t : Tmp} {tmps : Array Value} {g' : Nat} {cs' : Array Value} {w : World} (h : fn.results = #[.cell q 32, .tmp t]) (hq : tmps.getD q undef = .pointer (some ⟨g', 0, none⟩)) (hr' : Row w g' cs' 32) (hs' : cs'.size = 2) :
    (results fn tmps).run Try.prog w = .ok (.tuple #[.agg cs', tmps.getD t undef]) w := by
  have hl' := load_ref hr' hs'
  have hq' : tmps[q]?.getD undef = .pointer (some ⟨g', 0, none⟩) := by simpa using hq
  simp only [results, h]
  simp [Result.andThen, hq', asAddr, hl']

set_option maxRecDepth 100000 in
set_option maxHeartbeats 1000000 in
theorem take_no (w : World) (x : Int) (l m : Int) (h : decide (l < m) = true) : Calls Try.prog 52 #[.agg #[.int .u32 x, .int .i64 l], .int .i64 m] w fun e w' => e = .returned (.tuple #[.int .i64 0, .agg #[.int .u32 0, .int .i64 0], .bool false]) ∧ Fr none' w w' := by
  have f0 := ((Fr.refl none' w).alloc (.cells #[.int .u32 x, .int .i64 l] 76)).alloc (.cells #[.int .u32 0, .int .i64 0] 76)
  have r0 := row_alloc1 w (.cells #[.int .u32 x, .int .i64 l] 76) #[.int .u32 0, .int .i64 0] 76
  have HR : Hid (Row ((w.alloc (.cells #[.int .u32 x, .int .i64 l] 76)).alloc (.cells #[.int .u32 0, .int .i64 0] 76)) (w.heap.size + 1) #[.int .u32 0, .int .i64 0] 76) := r0
  clear r0
  go_enter Try.func52, Try.ntmps52
  go_wp2_with fail
  refine bodyPost_ret (ret_take rfl rfl HR.out rfl) rfl ?_
  exact ⟨rfl, f0⟩

theorem and_mask (a m : Nat) (ha : a < 4294967296) (hm : m ≤ 16) : wrap64 (bits .and .u32 (a : Int) ((2 ^ m - 1) % 4294967296)) = ((a % 2 ^ m : Nat) : Int) := by
  have h1 : 2 ^ m ≤ 65536 := Nat.pow_le_pow_right (n := 2) (by omega) hm
  have h0 : 0 < 2 ^ m := Nat.two_pow_pos m
  have eN : ((2 ^ m : Nat) : Int) = (2 : Int) ^ m := by push_cast; rfl
  have e : ((2 : Int) ^ m - 1) % 4294967296 = ((2 ^ m - 1 : Nat) : Int) := by
    rw [← eN]
    generalize (2 ^ m : Nat) = N at *
    omega
  rw [e]
  have e2 : (BitVec.ofInt 32 (a : Int) &&& BitVec.ofInt 32 ((2 ^ m - 1 : Nat) : Int)).toNat = a % 2 ^ m := by
    rw [BitVec.ofInt_natCast, BitVec.ofInt_natCast, BitVec.toNat_and, BitVec.toNat_ofNat, BitVec.toNat_ofNat, Nat.mod_eq_of_lt (by omega), Nat.mod_eq_of_lt (by generalize (2 ^ m : Nat) = N at *; omega), Nat.and_two_pow_sub_one_eq_mod]
  show wrap64 (IntKind.u32.wrap ((BitVec.ofInt 32 (a : Int) &&& BitVec.ofInt 32 ((2 ^ m - 1 : Nat) : Int)).toNat : Int)) = _
  rw [e2]
  have h2 : a % 2 ^ m < 65536 := Nat.lt_of_lt_of_le (Nat.mod_lt _ h0) h1
  generalize a % 2 ^ m = z at *
  rw [IntKind.wrap_u32]
  unfold wrap64
  omega

theorem take_bits (x l m : Nat) (hx : x < 4294967296) (hm : m ≤ 16) : wrap64 (bits .and .u32 ((x : Int) / 2 ^ l) ((2 ^ m - 1) % 4294967296)) = (bitV x l m : Nat) := by
  have e : (x : Int) / 2 ^ l = ((x / 2 ^ l : Nat) : Int) := by push_cast; rfl
  rw [e, and_mask _ m (Nat.lt_of_le_of_lt (Nat.div_le_self _ _) hx) hm]
  rfl

set_option maxRecDepth 100000 in
set_option maxHeartbeats 1000000 in
theorem take_ok (w : World) (x l m : Nat) (hx : x < 4294967296) (hl : m ≤ l) (h16 : l ≤ 16) : Calls Try.prog 52 #[.agg #[.int .u32 (x : Int), .int .i64 (l : Int)], .int .i64 (m : Int)] w fun e w' => e = .returned (.tuple #[.int .i64 (bitV x (l - m) m : Nat), .agg #[.int .u32 (x : Int), .int .i64 ((l - m : Nat) : Int)], .bool true]) ∧ Fr none' w w' := by
  have hb := take_bits x (l - m) m hx (by omega)
  have hs : ((l - m : Nat) : Int) = (l : Int) - (m : Int) := by omega
  rw [hs, ← hb]
  clear hb hs
  have f0 := (((Fr.refl none' w).alloc (.cells #[.int .u32 (x : Int), .int .i64 ((l : Int) - (m : Int))] 76)).alloc (.cells #[.int .u32 (x : Int), .int .i64 ((l : Int) - (m : Int))] 76)).drew
  have r0 := (row_alloc1 w (.cells #[.int .u32 (x : Int), .int .i64 ((l : Int) - (m : Int))] 76) #[.int .u32 (x : Int), .int .i64 ((l : Int) - (m : Int))] 76).drew
  have HR : Hid (Row (((w.alloc (.cells #[.int .u32 (x : Int), .int .i64 ((l : Int) - (m : Int))] 76)).alloc (.cells #[.int .u32 (x : Int), .int .i64 ((l : Int) - (m : Int))] 76)).drew) (w.heap.size + 1) #[.int .u32 (x : Int), .int .i64 ((l : Int) - (m : Int))] 76) := r0
  clear r0
  go_enter Try.func52, Try.ntmps52
  go_wp2_with fail
  go_region
  all_goals go_wp2_with fail
  refine bodyPost_ret (ret_take rfl rfl HR.out rfl) rfl ?_
  exact ⟨rfl, f0⟩

/-! ### step -/
theorem stepE_zero {L : List Nd} {c : K} {w l : Nat} (h : stepE L c w l = 0) : c.n.toNat ≤ l ∧ (bitV w (l - c.n.toNat) c.n.toNat : Int) = c.g ∧ c.x.toNat ≤ l - c.n.toNat ∧ radS L c.o = c.x := by
  unfold stepE at h
  split at h
  · cases h
  split at h
  · cases h
  split at h
  · cases h
  split at h
  · cases h
  rename_i h1 h2 h3 h4
  exact ⟨by omega, by simpa using h2, by omega, by simpa using h4⟩

end Go.Proofs.Ytibdkadojoeopaa
