/-
  The law UtfJoins, walked: it answers true at every text and all bytes.
-/
import Derived.Test.YtnjdmkkifdiedabW5
import Derived.Deep.AppendSrc
import Derived.OwnWalk
namespace Go.Proofs.Ytnjdmkkifdiedab
open Go.RowKit
open Utf1

set_option linter.unusedVariables false

theorem info_u8j : (Try.prog.info? 5).map (fun i => (i.zero, i.size, i.bytes)) = some (some (.int .u8 0), 1, 1) := by kernel_rfl

theorem below_setCells {B : Nat} {w0 : World} (b : Nat) (hb : B ≤ b) : ∀ (vs : List Value) (o : Nat) (w : World), Below B w0 w → Below B w0 (w.setCells b o vs)
  | [], _, _, h => h
  | v :: vs, o, w, h => by
    rw [World.setCells]
    exact below_setCells b hb vs (o + 1) _ (h.setCell hb _)

theorem byteCells_at (l : List UInt8) (j : Nat) (hj : j < l.length) : (Lib.byteCells l)[j]? = some (.int .u8 (l[j].toNat : Int)) := by simp [Lib.byteCells, hj]
theorem byteCells_one (l : List UInt8) : ∀ u ∈ Lib.byteCells l, u.oneCell' = true := by
  intro u hu
  unfold Lib.byteCells at hu
  rw [List.mem_map] at hu
  obtain ⟨b, _, rfl⟩ := hu
  rfl

theorem IsBytes.src {w : World} {a : Option Addr} {n cap : Nat} {l : List UInt8} (h : IsBytes w (.slice a n cap) l) : Src Try.prog 1 22 (.slice a n cap) n (Lib.byteCells l) w := by
  rcases h with ⟨h, rfl⟩ | ⟨x, c, h, hc⟩
  · simp at h
    obtain ⟨rfl, rfl, rfl⟩ := h
    exact Src.ofNil w Try.underlying22 0
  · simp at h
    obtain ⟨rfl, rfl, rfl⟩ := h
    refine Src.ofSlice w Try.underlying22 x _ _ _ (by rw [Lib.byteCells_length, Nat.mul_one]) (fun j u hu => ?_) (byteCells_one l)
    have hj : j < l.length := by
      have := (List.getElem?_eq_some_iff.1 hu).1
      rwa [Lib.byteCells_length] at this
    rw [byteCells_at l j hj] at hu
    rw [hc j hj, Option.some.inj hu]

/-- The world behind '[]byte(s)'. -/
def wb (w : World) (s : ByteArray) : World := (w.alloc (.cells (bytesRow s (grownCap w s.size 0 5)) 5 ((bytesRow s (grownCap w s.size 0 5)).size, (bytesRow s (grownCap w s.size 0 5)).size + 1))).drew

theorem wb_below (w : World) (s : ByteArray) : Below w.heap.size w (wb w s) := ((Below.refl _ w).alloc (Nat.le_refl _) _).drew

theorem wb_size (w : World) (s : ByteArray) : (bytesRow s (grownCap w s.size 0 5)).size = grownCap w s.size 0 5 := by
  have := grownCap_ge w s.size 0 5
  unfold bytesRow
  rw [Array.size_append, Array.size_map, Array.size_replicate]
  show s.size + _ = _
  omega

theorem wb_cell (w : World) (s : ByteArray) (j : Nat) : (wb w s).cell? ⟨w.heap.size, j, none⟩ = (bytesRow s (grownCap w s.size 0 5))[j]? := World.cell?_alloc_mark w _ 5 _ j
theorem wb_frozen (w : World) (s : ByteArray) (j : Nat) (hj : j < grownCap w s.size 0 5) : (wb w s).frozen? ⟨w.heap.size, j, none⟩ = false := by
  have h := World.frozen?_alloc_mark w (bytesRow s (grownCap w s.size 0 5)) 5 (bytesRow s (grownCap w s.size 0 5)).size ((bytesRow s (grownCap w s.size 0 5)).size + 1) j
  rw [wb_size] at h
  have e : (wb w s).frozen? ⟨w.heap.size, j, none⟩ = (decide (grownCap w s.size 0 5 ≤ j) && decide (j < grownCap w s.size 0 5 + 1)) := by
    unfold wb
    rw [wb_size]
    exact h
  rw [e]
  simp
  omega

/-- 'append([]byte(s), b...)'. -/
theorem app_run (w : World) (s : ByteArray) (a : Option Addr) (n cap : Nat) (l : List UInt8) (hB : IsBytes w (.slice a n cap) l) (hs : s.size ≤ 3000) (hn : n ≤ 3000) (ty : TypeId) :
    ∃ v' W', (Builtin.append_ #[22, 22] ty #[.slice (some ⟨w.heap.size, 0, none⟩) s.size (grownCap w s.size 0 5), .slice a n cap]).run Try.prog (wb w s) = .ok v' W' ∧ IsBytes W' v' (bl s ++ l) ∧ Below w.heap.size w W' := by
  obtain ⟨i0, hi, hz0, hz1, hz2⟩ := info_parts info_u8j
  have hsrc := (hB.below (wb_below w s)).src
  have hlen := hB.len
  have hge := grownCap_ge w s.size 0 5
  have hbl : (Lib.byteCells l).length = n := by rw [Lib.byteCells_length, hlen]
  by_cases hroom : s.size + n ≤ grownCap w s.size 0 5
  · have hsome : ∀ j, j < (Lib.byteCells l).length → ((wb w s).cell? ⟨w.heap.size, 0 + s.size * 1 + j, none⟩).isSome = true := by
      intro j hj
      rw [wb_cell, Array.getElem?_eq_getElem (by rw [wb_size]; omega)]
      rfl
    have hrun := run_append_room_src (P := Try.prog) (wb w s) 22 22 ty 5 i0 Try.underlying22 hi w.heap.size 0 s.size (grownCap w s.size 0 5) (.slice a n cap) n (Lib.byteCells l) (by rw [hz1]; exact hsrc) hroom
      (by rw [hz1]; exact hsome) (by rw [hz1]; exact fun j hj => wb_frozen w s _ (by omega))
    rw [hz1] at hrun
    refine ⟨_, _, hrun, .inr ⟨⟨w.heap.size, 0, none⟩, grownCap w s.size 0 5, ?_, fun j hj => ?_⟩, below_setCells w.heap.size (Nat.le_refl _) _ _ _ (wb_below w s)⟩
    · rw [List.length_append, bl_len, hlen]
    · rw [add_zero_at]
      by_cases hjs : j < s.size
      · rw [World.cell?_setCells_out _ _ _ _ _ (fun _ _ => .inl (by show j < _; omega)), wb_cell, bytesRow_at s _ j hjs]
        rw [List.getElem_append_left (by rw [bl_len]; exact hjs)]
        rfl
      · have hjl : j - s.size < (Lib.byteCells l).length := by
          rw [List.length_append, bl_len] at hj
          rw [Lib.byteCells_length]
          omega
        have := World.cell?_setCells_in w.heap.size (Lib.byteCells l) (0 + s.size * 1) (wb w s) hsome (j - s.size) hjl
        rw [show 0 + s.size * 1 + (j - s.size) = j from by omega] at this
        rw [this, List.getElem_append_right (by rw [bl_len]; omega)]
        simp [Lib.byteCells]
  · have hold : (Builtin.firstCells i0.size s.size (.slice (some ⟨w.heap.size, 0, none⟩) s.size (grownCap w s.size 0 5))).run Try.prog (wb w s).drew = .ok (Lib.byteCells (bl s)).toArray (wb w s).drew := by
      rw [hz1]
      refine run_firstCells_some (wb w s).drew 1 s.size ⟨w.heap.size, 0, none⟩ s.size _ (Lib.byteCells (bl s)) (by rw [Lib.byteCells_length, bl_len, Nat.mul_one]) (fun j u hu => ?_)
      have hj : j < (bl s).length := by
        have := (List.getElem?_eq_some_iff.1 hu).1
        rwa [Lib.byteCells_length] at this
      rw [byteCells_at _ j hj] at hu
      rw [add_zero_at]
      show (wb w s).cell? _ = _
      rw [wb_cell, bytesRow_at s _ j (by rw [bl_len] at hj; exact hj), ← hu]
      rfl
    have hrun := run_append_grow_src (P := Try.prog) (wb w s) 22 22 ty 5 i0 (.int .u8 0) Try.underlying22 hi hz0 (some ⟨w.heap.size, 0, none⟩) s.size (grownCap w s.size 0 5) (Lib.byteCells (bl s)) hold (.slice a n cap) n (Lib.byteCells l) (by rw [hz1]; exact hsrc)
      (by omega) (by omega) (growslice_fits (by omega) (by rw [hz2]; omega))
    refine ⟨_, _, hrun, ?_, ?_⟩
    · have hsz : (wb w s).heap.size = w.heap.size + 1 := by unfold wb; simp
      refine .inr ⟨⟨(wb w s).heap.size, 0, none⟩, _, by rw [List.length_append, bl_len, hlen], fun j hj => ?_⟩
      rw [add_zero_at]
      have h1 := World.cell?_alloc_mark (wb w s).drew ((Lib.byteCells (bl s) ++ Lib.byteCells l).toArray ++ Builtin.zeroCells (Value.int .u8 0).cells (grownCap (wb w s) (s.size + n) (grownCap w s.size 0 5) 5 - (s.size + n))) 5 (0, 0) j
      refine Eq.trans h1 ?_
      rw [← Lib.byteCells_append, Array.getElem?_append_left (by rw [List.size_toArray, Lib.byteCells_length]; exact hj), List.getElem?_toArray]
      exact byteCells_at _ j hj
    · exact ((wb_below w s).drew).alloc (by have := (wb_below w s).size; exact this) _
theorem wpList_append_run {P : Program} {ops : Array Oper} {Q : Exit → Act → World → Prop} {a : Act} {w : World} {rest : List Oper} {o : Oper} (hw : Region.wanted o (yielded ops a.tmps) = true) (s x : Operand) (t u : TypeId)
    (ho : o.op = .call { callee := .builtin .append, args := #[s, x], argTypes := #[t, u] }) (vs vx : Value) (hs : a.eval s = vs) (hx : a.eval x = vx) (v' : Value) (w' : World)
    (hr : (Builtin.append_ #[t, u] o.type #[vs, vx]).run P w = .ok v' w') (h : wpList P ops Q rest (a.put o.dst v') w') : wpList P ops Q (o :: rest) a w := by
  refine wpList_step fun K hK => ?_
  rw [if_pos hw]
  unfold Oper.wp execOp
  simp only [ho, resolve, invoke, builtin, Sem.run_bind, Sem.run_pure, Result.andThen_ok, List.map_toArray, List.map_cons, List.map_nil, hs, hx, hr]
  exact hK _ _ h

theorem wb_isBytes (w : World) (s : ByteArray) : IsBytes (wb w s) (.slice (some ⟨w.heap.size, 0, none⟩) s.size (grownCap w s.size 0 5)) (bl s) := by
  have := IsBytes.ofRow (row_new w s (grownCap w s.size 0 5)) (grownCap w s.size 0 5)
  rw [bl_len] at this
  exact this
theorem below5j {w w1 w2 w3 w4 w5 : World} (hb1 : Below w.heap.size w w1) (hb2 : Below w1.heap.size w1 w2) (hb3 : Below w2.heap.size w2 w3) (hb4 : Below w3.heap.size w3 w4) (hb5 : Below w4.heap.size w4 w5) : Below w.heap.size w w5 := by
  have s1 := hb1.size
  have s2 := hb2.size
  have s3 := hb3.size
  have s4 := hb4.size
  exact (((hb1.trans (hb2.mono s1)).trans (hb3.mono (by omega))).trans (hb4.mono (by omega))).trans (hb5.mono (by omega))

set_option maxHeartbeats 1000000 in
theorem lawJoins_long (s : ByteArray) (a : Option Addr) (n cap : Nat) (c : Int) (w : World) (h : 3000 < s.size) (hs : s.size ≤ maxLen) :
    Calls Try.prog 3 #[.string s, .slice a n cap] w fun e w' => e = .returned (.bool true) ∧ Below w.heap.size w w' := by
  unfold maxLen at hs
  have t1 : decide (3000 < s.size) = true := decide_eq_true (by omega)
  go_enter Try.func3, Try.ntmps3
  go_wp2_with fail
  refine (awake_any _).mono ?_
  rintro e w1 ⟨rfl, hb1⟩
  go_wp2_with fail
  go_ret
  exact ⟨rfl, hb1⟩

set_option maxHeartbeats 1000000 in
theorem lawJoins_longb (s : ByteArray) (a : Option Addr) (n cap : Nat) (c : Int) (w : World) (h : s.size ≤ 3000) (hn : 3000 < n) :
    Calls Try.prog 3 #[.string s, .slice a n cap] w fun e w' => e = .returned (.bool true) ∧ Below w.heap.size w w' := by
  have t1 : decide (3000 < s.size) = false := decide_eq_false (by omega)
  have t2 : decide (3000 < n) = true := decide_eq_true (by omega)
  go_enter Try.func3, Try.ntmps3
  go_wp2_with fail
  refine (awake_any _).mono ?_
  rintro e w1 ⟨rfl, hb1⟩
  go_wp2_with fail
  go_ret
  exact ⟨rfl, hb1⟩

set_option maxHeartbeats 1000000 in
theorem lawJoins_cr (s : ByteArray) (a : Option Addr) (n cap : Nat) (c : Int) (w : World) (h : s.size ≤ 3000) (hn : n ≤ 3000) (h0 : 0 < s.size) (hc : (c == 13) = true) (iL : ∀ w, (Instr.index 9 (.string s) (.int .i64 ((s.size : Int) - 1))).run Try.prog w = .ok (.int .u8 c) w) :
    Calls Try.prog 3 #[.string s, .slice a n cap] w fun e w' => e = .returned (.bool true) ∧ Below w.heap.size w w' := by
  have t1 : decide (3000 < s.size) = false := decide_eq_false (by omega)
  have t2 : decide (3000 < n) = false := decide_eq_false (by omega)
  have t3 : decide (0 < s.size) = true := decide_eq_true (by omega)
  go_enter Try.func3, Try.ntmps3
  go_wp2_with fail
  refine (awake_any _).mono ?_
  rintro e w1 ⟨rfl, hb1⟩
  go_wp2_with fail
  go_ret
  exact ⟨rfl, hb1⟩

set_option maxHeartbeats 1000000 in
theorem lawJoins_wrong (s : ByteArray) (a : Option Addr) (n cap : Nat) (c : Int) (w : World) (h : s.size ≤ 3000) (hn : n ≤ 3000) (h0 : 0 < s.size) (hc : (c == 13) = false) (iL : ∀ w, (Instr.index 9 (.string s) (.int .i64 ((s.size : Int) - 1))).run Try.prog w = .ok (.int .u8 c) w) (V : Hid (∀ w : World, Calls Try.prog 6 #[.string s] w fun e w' => e = .returned (.bool false) ∧ Below w.heap.size w w')) :
    Calls Try.prog 3 #[.string s, .slice a n cap] w fun e w' => e = .returned (.bool true) ∧ Below w.heap.size w w' := by
  have t1 : decide (3000 < s.size) = false := decide_eq_false (by omega)
  have t2 : decide (3000 < n) = false := decide_eq_false (by omega)
  have t3 : decide (0 < s.size) = true := decide_eq_true (by omega)
  go_enter Try.func3, Try.ntmps3
  go_wp2_with fail
  refine (awake_any _).mono ?_
  rintro e w1 ⟨rfl, hb1⟩
  go_wp2_with fail
  refine (V.out _).mono ?_
  rintro e w2 ⟨rfl, hb2⟩
  go_wp2_with fail
  go_ret
  exact ⟨rfl, hb1.trans (hb2.mono hb1.size)⟩

set_option maxHeartbeats 1000000 in
theorem lawJoins_wrong0 (s : ByteArray) (a : Option Addr) (n cap : Nat) (c : Int) (w : World) (h : s.size ≤ 3000) (hn : n ≤ 3000) (h0 : s.size = 0) (V : Hid (∀ w : World, Calls Try.prog 6 #[.string s] w fun e w' => e = .returned (.bool false) ∧ Below w.heap.size w w')) :
    Calls Try.prog 3 #[.string s, .slice a n cap] w fun e w' => e = .returned (.bool true) ∧ Below w.heap.size w w' := by
  have t0 : ¬ 0 < s.size := by omega
  have t1 : decide (3000 < s.size) = false := decide_eq_false (by omega)
  have t2 : decide (3000 < n) = false := decide_eq_false (by omega)
  have t3 : decide (0 < s.size) = false := decide_eq_false (by omega)
  clear h0
  go_enter Try.func3, Try.ntmps3
  go_wp2_with fail
  refine (awake_any _).mono ?_
  rintro e w1 ⟨rfl, hb1⟩
  go_wp2_with fail
  refine (V.out _).mono ?_
  rintro e w2 ⟨rfl, hb2⟩
  go_wp2_with fail
  go_ret
  exact ⟨rfl, hb1.trans (hb2.mono hb1.size)⟩

set_option maxHeartbeats 1000000 in
theorem lawJoins_in (s : ByteArray) (a : Option Addr) (n cap : Nat) (c : Int) (w : World) (h : s.size ≤ 3000) (hn : n ≤ 3000) (h0 : 0 < s.size) (hc : (c == 13) = false) (iL : ∀ w, (Instr.index 9 (.string s) (.int .i64 ((s.size : Int) - 1))).run Try.prog w = .ok (.int .u8 c) w) (V : Hid (∀ w : World, Calls Try.prog 6 #[.string s] w fun e w' => e = .returned (.bool true) ∧ Below w.heap.size w w')) (l : List UInt8) (HB : Hid (IsBytes w (.slice a n cap) l)) (T2 T3 : ByteArray) (z2 : T2.size ≤ 100000) (z3 : T3.size ≤ 100000)
    (F1 : Hid (∀ (w : World) (v : Value), IsBytes w v (bl s ++ l) → Calls Try.prog 7 #[v] w fun e w' => e = .returned (.string (T2 ++ T3)) ∧ Below w.heap.size w w'))
    (F2 : Hid (∀ (w : World) (v : Value), IsBytes w v (bl s) → Calls Try.prog 7 #[v] w fun e w' => e = .returned (.string T2) ∧ Below w.heap.size w w'))
    (F3 : Hid (∀ w : World, IsBytes w (.slice a n cap) l → Calls Try.prog 7 #[.slice a n cap] w fun e w' => e = .returned (.string T3) ∧ Below w.heap.size w w'))  :
    Calls Try.prog 3 #[.string s, .slice a n cap] w fun e w' => e = .returned (.bool true) ∧ Below w.heap.size w w' := by
  have t1 : decide (3000 < s.size) = false := decide_eq_false (by omega)
  have t2 : decide (3000 < n) = false := decide_eq_false (by omega)
  have t3 : decide (0 < s.size) = true := decide_eq_true (by omega)
  have hby := fun (w : World) (s : ByteArray) => run_bytes_of_string (P := Try.prog) w 9 22 5 s Try.underlying9 Try.underlying22 Try.underlying5
  go_enter Try.func3, Try.ntmps3
  go_wp2_with fail
  refine (awake_any _).mono ?_
  rintro e w1 ⟨rfl, hb1⟩
  go_wp2_with fail
  refine (V.out _).mono ?_
  rintro e w2 ⟨rfl, hb2⟩
  have hb2' : Below w.heap.size w w2 := hb1.trans (hb2.mono hb1.size)
  have HB2 := hide (HB.out.below hb2')
  obtain ⟨v', W', hrun, hIB, hbW⟩ := app_run w2 s a n cap l HB2.out h hn 22
  have HBW := hide (HB2.out.below hbW)
  have HIB := hide hIB
  have HR := hide hrun
  clear hIB hrun
  go_wp2_with (at_builtin; refine wpList_append_run (by rfl) (.tmp 37) (.tmp 38) 22 22 rfl _ _ rfl rfl v' W' HR.out ?_)
  refine (F1.out _ _ HIB.out).mono ?_
  rintro e w3 ⟨rfl, hb3⟩
  have HB3 := hide (HBW.out.below hb3)
  go_wp2_with fail
  refine (F2.out _ _ (wb_isBytes w3 s)).mono ?_
  rintro e w4 ⟨rfl, hb4⟩
  have hb4' : Below w3.heap.size w3 w4 := (wb_below w3 s).trans (hb4.mono (by unfold wb; simp))
  have HB4 := hide (HB3.out.below hb4')
  go_wp2_with fail
  refine (F3.out _ HB4.out).mono ?_
  rintro e w5 ⟨rfl, hb5⟩
  go_wp2_with fail
  go_ret
  exact ⟨ret_bool (by simp), below5j hb2' hbW hb3 hb4' hb5⟩

set_option maxHeartbeats 1000000 in
theorem lawJoins_in0 (s : ByteArray) (a : Option Addr) (n cap : Nat) (c : Int) (w : World) (h : s.size ≤ 3000) (hn : n ≤ 3000) (h0 : s.size = 0) (V : Hid (∀ w : World, Calls Try.prog 6 #[.string s] w fun e w' => e = .returned (.bool true) ∧ Below w.heap.size w w')) (l : List UInt8) (HB : Hid (IsBytes w (.slice a n cap) l)) (T2 T3 : ByteArray) (z2 : T2.size ≤ 100000) (z3 : T3.size ≤ 100000)
    (F1 : Hid (∀ (w : World) (v : Value), IsBytes w v (bl s ++ l) → Calls Try.prog 7 #[v] w fun e w' => e = .returned (.string (T2 ++ T3)) ∧ Below w.heap.size w w'))
    (F2 : Hid (∀ (w : World) (v : Value), IsBytes w v (bl s) → Calls Try.prog 7 #[v] w fun e w' => e = .returned (.string T2) ∧ Below w.heap.size w w'))
    (F3 : Hid (∀ w : World, IsBytes w (.slice a n cap) l → Calls Try.prog 7 #[.slice a n cap] w fun e w' => e = .returned (.string T3) ∧ Below w.heap.size w w'))  :
    Calls Try.prog 3 #[.string s, .slice a n cap] w fun e w' => e = .returned (.bool true) ∧ Below w.heap.size w w' := by
  have t0 : ¬ 0 < s.size := by omega
  have t1 : decide (3000 < s.size) = false := decide_eq_false (by omega)
  have t2 : decide (3000 < n) = false := decide_eq_false (by omega)
  have t3 : decide (0 < s.size) = false := decide_eq_false (by omega)
  have hby := fun (w : World) (s : ByteArray) => run_bytes_of_string (P := Try.prog) w 9 22 5 s Try.underlying9 Try.underlying22 Try.underlying5
  clear h0
  go_enter Try.func3, Try.ntmps3
  go_wp2_with fail
  refine (awake_any _).mono ?_
  rintro e w1 ⟨rfl, hb1⟩
  go_wp2_with fail
  refine (V.out _).mono ?_
  rintro e w2 ⟨rfl, hb2⟩
  have hb2' : Below w.heap.size w w2 := hb1.trans (hb2.mono hb1.size)
  have HB2 := hide (HB.out.below hb2')
  obtain ⟨v', W', hrun, hIB, hbW⟩ := app_run w2 s a n cap l HB2.out h hn 22
  have HBW := hide (HB2.out.below hbW)
  have HIB := hide hIB
  have HR := hide hrun
  clear hIB hrun
  go_wp2_with (at_builtin; refine wpList_append_run (by rfl) (.tmp 37) (.tmp 38) 22 22 rfl _ _ rfl rfl v' W' HR.out ?_)
  refine (F1.out _ _ HIB.out).mono ?_
  rintro e w3 ⟨rfl, hb3⟩
  have HB3 := hide (HBW.out.below hb3)
  go_wp2_with fail
  refine (F2.out _ _ (wb_isBytes w3 s)).mono ?_
  rintro e w4 ⟨rfl, hb4⟩
  have hb4' : Below w3.heap.size w3 w4 := (wb_below w3 s).trans (hb4.mono (by unfold wb; simp))
  have HB4 := hide (HB3.out.below hb4')
  go_wp2_with fail
  refine (F3.out _ HB4.out).mono ?_
  rintro e w5 ⟨rfl, hb5⟩
  go_wp2_with fail
  go_ret
  exact ⟨ret_bool (by simp), below5j hb2' hbW hb3 hb4' hb5⟩

theorem last_bl (s : ByteArray) (h : 0 < s.size) (hl : s.size - 1 < (bl s).length) : (bl s).getLast? = some ((bl s)[s.size - 1]) := by
  rw [List.getLast?_eq_getElem?, bl_len, List.getElem?_eq_getElem hl]

theorem idx_last (s : ByteArray) (h : 0 < s.size) (hl : s.size - 1 < (bl s).length) (w : World) :
    (Instr.index 9 (.string s) (.int .i64 ((s.size : Int) - 1))).run Try.prog w = .ok (.int .u8 (((bl s)[s.size - 1]).toNat : Int)) w := by
  have hh : 0 ≤ ((s.size : Int) - 1) ∧ ((s.size : Int) - 1) < (s.size : Int) := by omega
  have := run_index_string (P := Try.prog) w 9 s .i64 ((s.size : Int) - 1) Try.underlying9
  rw [this, dif_pos hh]
  have e : ((s.size : Int) - 1).toNat = s.size - 1 := by omega
  congr 3
  simp only [e]
  rfl

theorem fix_len_le (l : List UInt8) : (fix l).length ≤ 4 * l.length := by
  have h1 : ∀ rs : List Nat, (enc rs).length ≤ 4 * rs.length := by
    intro rs
    induction rs with
    | nil => simp [enc_nil]
    | cons r rs ih =>
      have := er_len r
      rw [enc_cons, List.length_append, List.length_cons]
      omega
  have h2 : ∀ (rs : List Nat) (last : Nat), (fixR last rs).length ≤ rs.length := by
    intro rs
    induction rs with
    | nil => intro _; exact Nat.le_refl _
    | cons r t ih =>
      intro last
      have := ih r
      have h1 : (one last r).length ≤ 1 := by unfold one; split; (simp); split; (simp); split <;> simp
      rw [fixR, List.length_append, List.length_cons]
      omega
  have h3 : ∀ l : List UInt8, (runes l).length ≤ l.length := by
    intro l
    induction h : l.length using Nat.strongRecOn generalizing l with
    | ind m ih =>
      by_cases hl : l = []
      · subst hl; simp [runes_nil]
      · have hw := dl_width l hl
        rw [runes_step l hl, List.length_cons]
        have := ih (l.drop (dl l).2).length (by simp; omega) _ rfl
        simp at this
        omega
  have a := h1 (fixR 0 (runes l))
  have b := h2 (runes l) 0
  have c := h3 l
  unfold fix
  omega

theorem ba_append (x y : List UInt8) : (⟨(x ++ y).toArray⟩ : ByteArray) = ⟨x.toArray⟩ ++ ⟨y.toArray⟩ := by
  apply ByteArray.ext
  rw [ByteArray.data_append]
  simp

theorem lawJoins_walk (s : ByteArray) (a : Option Addr) (n cap : Nat) (l : List UInt8) (w : World) (hs : s.size ≤ maxLen) (hB : IsBytes w (.slice a n cap) l) :
    Calls Try.prog 3 #[.string s, .slice a n cap] w fun e w' => e = .returned (.bool true) ∧ Below w.heap.size w w' := by
  by_cases h1 : 3000 < s.size
  · exact lawJoins_long s a n cap 0 w h1 hs
  · by_cases h2 : 3000 < n
    · exact lawJoins_longb s a n cap 0 w (by omega) h2
    · have hlen := hB.len
      have V := fun w => valid_any s w
      have hz2 := fix_len_le (bl s)
      have hz3 := fix_len_le l
      rw [bl_len] at hz2
      have F2 : ∀ (w : World) (v : Value), IsBytes w v (bl s) → Calls Try.prog 7 #[v] w fun e w' => e = .returned (.string ⟨(fix (bl s)).toArray⟩) ∧ Below w.heap.size w w' := fun w v h => fix_any v _ w h (by rw [bl_len]; omega)
      have F3 : ∀ w : World, IsBytes w (.slice a n cap) l → Calls Try.prog 7 #[.slice a n cap] w fun e w' => e = .returned (.string ⟨(fix l).toArray⟩) ∧ Below w.heap.size w w' := fun w h => fix_any _ l w h (by omega)
      have F1 : valid (bl s) = true → (bl s).getLast? ≠ some 13 → ∀ (w : World) (v : Value), IsBytes w v (bl s ++ l) → Calls Try.prog 7 #[v] w fun e w' => e = .returned (.string (⟨(fix (bl s)).toArray⟩ ++ ⟨(fix l).toArray⟩)) ∧ Below w.heap.size w w' := by
        intro hv hg w v h
        have := fix_any v _ w h (by rw [List.length_append, bl_len]; omega)
        rw [fix_append _ _ hv hg, ba_append] at this
        exact this
      have sz2 : (⟨(fix (bl s)).toArray⟩ : ByteArray).size ≤ 100000 := by show (fix (bl s)).toArray.size ≤ _; rw [List.size_toArray]; omega
      have sz3 : (⟨(fix l).toArray⟩ : ByteArray).size ≤ 100000 := by show (fix l).toArray.size ≤ _; rw [List.size_toArray]; omega
      by_cases h0 : s.size = 0
      · cases hv : valid (bl s) with
        | false =>
          rw [hv] at V
          exact lawJoins_wrong0 s a n cap 0 w (by omega) (by omega) h0 (hide V)
        | true =>
          rw [hv] at V
          have hg : (bl s).getLast? ≠ some 13 := by
            have : bl s = [] := List.length_eq_zero_iff.1 (by rw [bl_len]; exact h0)
            rw [this]
            simp
          exact lawJoins_in0 s a n cap 0 w (by omega) (by omega) h0 (hide V) l (hide hB) _ _ sz2 sz3 (hide (F1 hv hg)) (hide F2) (hide F3)
      · have hl : s.size - 1 < (bl s).length := by rw [bl_len]; omega
        have iL := idx_last s (by omega) hl
        have hgl := last_bl s (by omega) hl
        by_cases h13 : ((bl s)[s.size - 1]).toNat = 13
        · exact lawJoins_cr s a n cap _ w (by omega) (by omega) (by omega) (beq_iff_eq.2 (by omega)) iL
        · have hg : (bl s).getLast? ≠ some 13 := by
            rw [hgl]
            intro e
            apply h13
            rw [Option.some.inj e]
            rfl
          cases hv : valid (bl s) with
          | false =>
            rw [hv] at V
            exact lawJoins_wrong s a n cap _ w (by omega) (by omega) (by omega) (beq_eq_false_iff_ne.2 (by omega)) iL (hide V)
          | true =>
            rw [hv] at V
            exact lawJoins_in s a n cap _ w (by omega) (by omega) (by omega) (beq_eq_false_iff_ne.2 (by omega)) iL (hide V) l (hide hB) _ _ sz2 sz3 (hide (F1 hv hg)) (hide F2) (hide F3)
end Go.Proofs.Ytnjdmkkifdiedab
