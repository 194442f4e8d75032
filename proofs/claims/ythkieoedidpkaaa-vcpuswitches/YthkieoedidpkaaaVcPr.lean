/-
  Virtual processors that a law made, beside blocks of others: package vcpu's calls by what they say. No statement is proved here.
-/
import Derived.Test.YthkieoedidpkaaaVcTick
import Derived.Test.YthkieoedidpkaaaVgNext
import Derived.ChangeKeysEq
namespace Go.Proofs.Ythkieoedidpkaaa
open Go.RowKit Go.Maps Go.WideMaps

/-- p is newer than w0, and none of its blocks is O's; O's are there. -/
structure Vx (w0 w : World) (p : Pp) (S : Vp) (O : Nat → Prop) : Prop where
  is : IsP w p S
  hi : ∀ k, p.s S k → w0.heap.size ≤ k ∧ ¬ O k
  lo : ∀ k, O k → k < w.heap.size
  fr : Fr none' w0 w
/-- Nothing old has turned, and nothing of O's. -/
def FrO (w0 : World) (O : Nat → Prop) (w w' : World) : Prop := Fr (fun k => w0.heap.size ≤ k ∧ ¬ O k) w w'
theorem i64_of {i : Int} (h1 : -9223372036854775808 ≤ i) (h2 : i ≤ 9223372036854775807) : I64 i := ⟨h1, h2⟩

section
variable {w0 w w' : World} {p p' : Pp} {S S' : Vp} {O : Nat → Prop}
theorem fr_new {T : Nat → Prop} (h : Fr none' w0 w) (f : Fr T w w') (hs : ∀ k, T k → w0.heap.size ≤ k) : Fr none' w0 w' :=
  ⟨f.os.trans h.os, f.tape.trans h.tape, f.output.trans h.output, Nat.le_trans h.size f.size, fun i hi hn => (f.block i (Nat.lt_of_lt_of_le hi h.size) (fun e => by have := hs i e; omega)).trans (h.block i hi hn)⟩
theorem Vx.chg (h : Vx w0 w p S O) (c : ChP w p S w' p' S') : Vx w0 w' p' S' O ∧ FrO w0 O w w' := by
  refine ⟨⟨c.is, fun k hk => ?_, fun k hk => Nat.lt_of_lt_of_le (h.lo k hk) c.fr.size, fr_new h.fr c.fr (fun k hk => (h.hi k hk).1)⟩, c.fr.mono (fun k _ hk => h.hi k hk)⟩
  rcases c.new k hk with h' | h'
  · exact h.hi k h'
  · have := h.fr.size
    exact ⟨by omega, fun ho => by have := h.lo k ho; omega⟩
theorem Vx.keep {T : Nat → Prop} (h : Vx w0 w p S O) (f : Fr T w w') (hs : ∀ k, T k → w0.heap.size ≤ k ∧ O k) : Vx w0 w' p S O :=
  ⟨h.is.keep f (fun k hk hT => (h.hi k hk).2 (hs k hT).2), h.hi, fun k hk => Nat.lt_of_lt_of_le (h.lo k hk) f.size, fr_new h.fr f (fun k hk => (hs k hk).1)⟩
theorem Vx.keep0 (h : Vx w0 w p S O) (f : Fr none' w w') : Vx w0 w' p S O := h.keep f (fun _ h => h.elim)
theorem Vx.more {O' : Nat → Prop} (h : Vx w0 w p S O) (f : Fr none' w w') (ho : ∀ k, O' k → (O k ∨ w.heap.size ≤ k) ∧ k < w'.heap.size) : Vx w0 w' p S O' := by
  refine ⟨h.is.keep0 f, fun k hk => ⟨(h.hi k hk).1, fun h' => ?_⟩, fun k hk => (ho k hk).2, h.fr.trans f⟩
  rcases (ho k h').1 with h1 | h1
  · exact (h.hi k hk).2 h1
  · have := h.is.lt k hk; omega
theorem Vx.less {O' : Nat → Prop} (h : Vx w0 w p S O) (ho : ∀ k, O' k → O k) : Vx w0 w p S O' :=
  ⟨h.is, fun k hk => ⟨(h.hi k hk).1, fun h' => (h.hi k hk).2 (ho k h')⟩, fun k hk => h.lo k (ho k hk), h.fr⟩

theorem xnew (w : World) (n : Int) (hn : rgB n 1 16 = true) : Calls Try.prog 6 #[.int .i64 n] w fun e w' => ∃ p, e = .returned (.tuple #[pv p.b, .int .i64 0]) ∧ Vx w w' p ⟨[], -1, n⟩ none' :=
  (newV_ok w n hn).mono fun _ _ ⟨p, h1, h2, h3, h4⟩ => ⟨p, h1, h3, fun k hk => ⟨h4 k hk, fun h => h⟩, fun _ h => h.elim, h2⟩
theorem xadd (h : Vx w0 w p S O) (id : Int) : Calls Try.prog 10 #[pv p.b, .int .i64 id] w fun e w' => ∃ p', e = .returned (.int .i64 (addE S id)) ∧ p'.b = p.b ∧ Vx w0 w' p' (addS S id) O ∧ FrO w0 O w w' :=
  (add_any w p S h.is id).mono fun _ _ ⟨p', h1, h2⟩ => ⟨p', h1, h2.eb, h.chg h2⟩
theorem xleave (h : Vx w0 w p S O) : Calls Try.prog 12 #[pv p.b] w fun e w' => ∃ v, e = .returned v ∧ Vx w0 w' p (leaS S) O ∧ FrO w0 O w w' :=
  (leave_any w p S h.is).mono fun _ _ ⟨v, h1, h2⟩ => ⟨v, h1, h.chg h2⟩
theorem xdrop (h : Vx w0 w p S O) (id : Int) (hi : I64 id) : Calls Try.prog 22 #[pv p.b, .int .i64 id] w fun e w' => e = .returned (.int .i64 (drpE S id)) ∧ Vx w0 w' p (drpS S id) O ∧ FrO w0 O w w' :=
  (drop_any w p S h.is id hi).mono fun _ _ ⟨h1, h2⟩ => ⟨h1, h.chg h2⟩
theorem xbind (h : Vx w0 w p S O) (id t : Int) (hi : I64 id) : Calls Try.prog 18 #[pv p.b, .int .i64 id, .int .i64 t] w fun e w' => e = .returned (.int .i64 (binE S id t)) ∧ Vx w0 w' p (binS S id t) O ∧ FrO w0 O w w' :=
  (bind_any w p S h.is id t hi).mono fun _ _ ⟨h1, h2⟩ => ⟨h1, h.chg h2⟩
theorem xunbind (h : Vx w0 w p S O) (id : Int) (hi : I64 id) : Calls Try.prog 25 #[pv p.b, .int .i64 id] w fun e w' => e = .returned (.int .i64 (unbE S id)) ∧ Vx w0 w' p (unbS S id) O ∧ FrO w0 O w w' :=
  (unbind_any w p S h.is id hi).mono fun _ _ ⟨h1, h2⟩ => ⟨h1, h.chg h2⟩
theorem xenter (h : Vx w0 w p S O) (id : Int) (hi : I64 id) : Calls Try.prog 11 #[pv p.b, .int .i64 id] w fun e w' => e = .returned (.int .i64 (entE S id)) ∧ Vx w0 w' p (entS S id) O ∧ FrO w0 O w w' :=
  (enter_any w p S h.is id hi).mono fun _ _ ⟨h1, h2⟩ => ⟨h1, h.chg h2⟩
theorem xset (h : Vx w0 w p S O) (b : Nat → Int) : Calls Try.prog 14 #[pv p.b, .agg (r8 b)] w fun e w' => e = .returned (.int .i64 (setE S)) ∧ Vx w0 w' p (setS S b) O ∧ FrO w0 O w w' :=
  (setbank_any w p S h.is b).mono fun _ _ ⟨h1, h2⟩ => ⟨h1, h.chg h2⟩
theorem xwrite (h : Vx w0 w p S O) (id n v : Int) (hi : I64 id) : Calls Try.prog 17 #[pv p.b, .int .i64 id, .int .i64 n, .int .u32 v] w fun e w' => e = .returned (.int .i64 (wriE S id n)) ∧ Vx w0 w' p (wriS S id n v) O ∧ FrO w0 O w w' :=
  (write_any w p S h.is id n v hi).mono fun _ _ ⟨h1, h2⟩ => ⟨h1, h.chg h2⟩
theorem xinject (h : Vx w0 w p S O) (id n q : Int) (l : Bool) (hi : I64 id) : Calls Try.prog 31 #[pv p.b, .int .i64 id, .int .i64 n, .int .i64 q, .bool l] w fun e w' => e = .returned (.int .i64 (ijE S id n q)) ∧ Vx w0 w' p (ijS S id n q l) O ∧ FrO w0 O w w' :=
  (injectV w p S h.is id n q l hi).mono fun _ _ ⟨h1, h2⟩ => ⟨h1, h.chg h2⟩
theorem xtick (h : Vx w0 w p S O) : Calls Try.prog 19 #[pv p.b] w fun e w' => e = .returned (.bool (tckB S)) ∧ Vx w0 w' p (tckS S) O ∧ FrO w0 O w w' :=
  (tick_any w p S h.is).mono fun _ _ ⟨h1, h2⟩ => ⟨h1, h.chg h2⟩
theorem xread (h : Vx w0 w p S O) (id n : Int) (hi : I64 id) : Calls Try.prog 16 #[pv p.b, .int .i64 id, .int .i64 n] w fun e w' => e = .returned (.tuple #[.int .u32 (reaW S id n), .int .i64 (reaE S id n)]) ∧ w' = w :=
  read_any w p S h.is id n hi
theorem xthread (h : Vx w0 w p S O) (id : Int) (hi : I64 id) : Calls Try.prog 41 #[pv p.b, .int .i64 id] w fun e w' => e = .returned (.int .i64 (thrI S id)) ∧ w' = w :=
  thread_any w p S h.is id hi
theorem xloaded (h : Vx w0 w p S O) : Calls Try.prog 38 #[pv p.b] w fun e w' => e = .returned (.int .i64 S.ld) ∧ w' = w :=
  loaded_any w p S h.is
theorem xvgic (h : Vx w0 w p S O) (id : Int) (hi : I64 id) : Calls Try.prog 34 #[pv p.b, .int .i64 id] w fun e w' => e = .returned (if hasB S id then pv (p.K id).b else .pointer none) ∧ w' = w :=
  vgic_any w p S h.is id hi
theorem xof (h : Vx w0 w p S O) (t : Int) : Calls Try.prog 40 #[pv p.b, .int .i64 t] w fun e w' => e = .returned (.int .i64 (ofI S t)) ∧ Fr none' w w' :=
  of_any w p S h.is t
theorem xbank (h : Vx w0 w p S O) : Calls Try.prog 15 #[pv p.b] w fun e w' => e = .returned (.agg (r8 (bkF S))) ∧ Fr none' w w' :=
  bank_any w p S h.is
theorem Vx.vg (h : Vx w0 w p S O) {id : Int} {x : Vc} (hx : fnd S.L id = some x) : IsVg w (p.K id) x.vg := by
  obtain ⟨⟨_, hv⟩, hid, _⟩ := h.is.has hx
  rw [hid] at hv
  exact hv
theorem xack (h : Vx w0 w p S O) {id : Int} {x : Vc} (hx : fnd S.L id = some x) : Calls Try.prog 36 #[pv (p.K id).b] w fun e w' => e = .returned (.int .i64 (ackA x.vg)) ∧ Vx w0 w' p { S with L := upd S.L id (setV (ackS x.vg)) } O ∧ FrO w0 O w w' :=
  (ack_any w (p.K id) x.vg (h.vg hx)).mono fun _ _ ⟨h1, h2⟩ => ⟨h1, h.chg (h.is.turnV hx h2)⟩

end

/-! ### eight registers compared -/
theorem info_u32 : ∃ i, Try.prog.info? 32 = some i := by
  have h : (Try.prog.info? 32).isSome = true := by kernel_rfl
  exact Option.isSome_iff_exists.1 h
theorem cells_u32 : Try.prog.cellsOf 32 = 1 := by kernel_rfl
theorem part_u32 {xs : Array Value} {i : Nat} {x : Int} (h : xs[i]? = some (.int .u32 x)) (w : World) : (part 32 xs i).run Try.prog w = .ok (.int .u32 x) w := by
  simp [part, isAgg, run_underlying Try.underlying32, h]
theorem eqItems_u32 (d : Nat) (xs ys : Array Value) (f g : Nat → Int) (w : World) : ∀ is : List Nat, (∀ i ∈ is, xs[i]? = some (.int .u32 (f i)) ∧ ys[i]? = some (.int .u32 (g i))) → (Op.eqItems (d + 1) 32 1 xs ys is).run Try.prog w = .ok (is.all (fun i => f i == g i)) w
  | [], _ => by simp [Op.eqItems]
  | i :: is, h => by
    have h1 := h i (by simp)
    have ih := eqItems_u32 d xs ys f g w is (fun j hj => h j (by simp [hj]))
    have p1 := part_u32 (i := i * 1) (by rw [Nat.mul_one]; exact h1.1) w
    have p2 := part_u32 (i := i * 1) (by rw [Nat.mul_one]; exact h1.2) w
    simp only [Op.eqItems, Sem.run_bind, p1, p2, Result.andThen_ok, run_equalIn_int w d 32 .u32 .u32 (f i) (g i) Try.underlying32]
    cases hh : (f i == g i) with
    | false => simp [hh]
    | true => simp [hh, ih]
def eq8B (f g : Nat → Int) : Bool := (List.range 8).all (fun i => f i == g i)
theorem eq8B_same (f : Nat → Int) : eq8B f f = true := by simp [eq8B]
theorem eq8_in (f g : Nat → Int) (w : World) : (Op.equalIn 10000 33 (.agg (r8 f)) (.agg (r8 g))).run Try.prog w = .ok (eq8B f g) w := by
  obtain ⟨i, hi⟩ := info_u32
  rw [show (10000 : Nat) = 9999 + 1 by rfl, run_equalIn_array w 9999 _ _ Try.underlying33 hi, cells_u32]
  refine eqItems_u32 9998 _ _ f g w _ (fun j hj => ?_)
  have hj' : j < 8 := List.mem_range.1 hj
  have : j = 0 ∨ j = 1 ∨ j = 2 ∨ j = 3 ∨ j = 4 ∨ j = 5 ∨ j = 6 ∨ j = 7 := by omega
  rcases this with rfl | rfl | rfl | rfl | rfl | rfl | rfl | rfl <;> exact ⟨rfl, rfl⟩

end Go.Proofs.Ythkieoedidpkaaa
