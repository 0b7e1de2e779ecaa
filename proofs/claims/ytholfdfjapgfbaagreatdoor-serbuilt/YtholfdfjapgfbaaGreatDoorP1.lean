/-
  What refs.Named answers at every name.
-/
import Derived.Test.YtholfdfjapgfbaaGreatDoorV1
import Derived.Test.YtholfdfjapgfbaaGreatDoorM2
import Derived.Deep.WholeRow
import Derived.Laws.Tables
namespace Go.Proofs.YtholfdfjapgfbaaGreatDoor
open Go.RowKit
open Utf1

/-- A character that may be there, as a text. -/
def oT : Option Nat → ByteArray
  | some r => ⟨(er r).toArray⟩
  | none => ⟨#[]⟩
/-- A character that may be there, as a call answers it. -/
def optS (o : Option Nat) : Value := .tuple #[.string (oT o), .bool o.isSome]

/-- Structures that are built one behind the other. -/
def buildAll (P : Program) : List Oper → Act → Option Act
  | [], a => some a
  | o :: os, a => match o.guard, o.op with
    | none, .build t parts => match P.built t (parts.map fun (i, x) => (i, a.eval x)).toList with
      | some cs => buildAll P os (a.put o.dst (.agg cs))
      | none => none
    | _, _ => none
theorem wpList_builds0 {P : Program} {ops : Array Oper} {Q : Exit → Act → World → Prop} {w : World} (rest : List Oper) : ∀ (os : List Oper) (a a' : Act), buildAll P os a = some a' → wpList P ops Q rest a' w → wpList P ops Q (os ++ rest) a w
  | [], a, a', h, hr => by
    simp only [buildAll] at h
    cases h
    exact hr
  | o :: os, a, a', h, hr => by
    unfold buildAll at h
    split at h
    · rename_i t parts hg ho
      split at h
      · rename_i cs hc
        refine wpList_build hg t parts ho (by rw [hc]; rfl) ?_
        rw [hc]
        exact wpList_builds0 rest os _ a' h hr
      · cases h
    · cases h
theorem wpList_builds {P : Program} {ops : Array Oper} {Q : Exit → Act → World → Prop} {w : World} (n : Nat) (l : List Oper) (a a' : Act) (h : buildAll P (l.take n) a = some a') (hr : wpList P ops Q (l.drop n) a' w) : wpList P ops Q l a w := by
  have := wpList_builds0 (l.drop n) (l.take n) a a' h hr
  rw [List.take_append_drop] at this
  exact this

theorem wpList_loadV {P : Program} {ops : Array Oper} {rest : List Oper} {o : Oper} {a : Act} {w w' : World} {Q : Exit → Act → World → Prop} (hg : o.guard = none) (t : TypeId) (x : Operand) (ho : o.op = .load t x) (v : Value)
    (hx : (Instr.loadAt t (a.eval x)).run P w = .ok v w') (h : wpList P ops Q rest (a.put o.dst v) w') : wpList P ops Q (o :: rest) a w :=
  wpList_plain hg fun K hK => by
    unfold Oper.wp execOp
    simp only [ho, Sem.run_bind, hx, Result.andThen_ok]
    exact hK _ _ h
theorem wpList_allocV {P : Program} {ops : Array Oper} {rest : List Oper} {o : Oper} {a : Act} {w w' : World} {Q : Exit → Act → World → Prop} (hg : o.guard = none) (t : TypeId) (ho : o.op = .alloc t) (v : Value)
    (hx : (Instr.alloc t true (.tuple #[])).run P w = .ok v w') (h : wpList P ops Q rest (a.put o.dst v) w') : wpList P ops Q (o :: rest) a w :=
  wpList_plain hg fun K hK => by
    unfold Oper.wp execOp
    simp only [ho, Sem.run_bind, hx, Result.andThen_ok]
    exact hK _ _ h

def nameCells : Array Value := #[.string ⟨#[97, 109, 112]⟩, .int .i32 38, .string ⟨#[108, 116]⟩, .int .i32 60, .string ⟨#[103, 116]⟩, .int .i32 62, .string ⟨#[113, 117, 111, 116]⟩, .int .i32 34, .string ⟨#[97, 112, 111, 115]⟩, .int .i32 39, .string ⟨#[110, 98, 115, 112]⟩, .int .i32 160, .string ⟨#[99, 111, 112, 121]⟩, .int .i32 169, .string ⟨#[114, 101, 103]⟩, .int .i32 174, .string ⟨#[100, 101, 103]⟩, .int .i32 176, .string ⟨#[109, 105, 100, 100, 111, 116]⟩, .int .i32 183, .string ⟨#[108, 97, 113, 117, 111]⟩, .int .i32 171, .string ⟨#[114, 97, 113, 117, 111]⟩, .int .i32 187, .string ⟨#[116, 105, 109, 101, 115]⟩, .int .i32 215, .string ⟨#[101, 97, 99, 117, 116, 101]⟩, .int .i32 233, .string ⟨#[110, 100, 97, 115, 104]⟩, .int .i32 8211, .string ⟨#[109, 100, 97, 115, 104]⟩, .int .i32 8212, .string ⟨#[108, 115, 113, 117, 111]⟩, .int .i32 8216, .string ⟨#[114, 115, 113, 117, 111]⟩, .int .i32 8217, .string ⟨#[108, 100, 113, 117, 111]⟩, .int .i32 8220, .string ⟨#[114, 100, 113, 117, 111]⟩, .int .i32 8221, .string ⟨#[104, 101, 108, 108, 105, 112]⟩, .int .i32 8230, .string ⟨#[101, 117, 114, 111]⟩, .int .i32 8364]
theorem nameCells_size : nameCells.size = 44 := rfl
def zeroCells : Array Value := #[.string ⟨#[]⟩, .int .i32 0, .string ⟨#[]⟩, .int .i32 0, .string ⟨#[]⟩, .int .i32 0, .string ⟨#[]⟩, .int .i32 0, .string ⟨#[]⟩, .int .i32 0, .string ⟨#[]⟩, .int .i32 0, .string ⟨#[]⟩, .int .i32 0, .string ⟨#[]⟩, .int .i32 0, .string ⟨#[]⟩, .int .i32 0, .string ⟨#[]⟩, .int .i32 0, .string ⟨#[]⟩, .int .i32 0, .string ⟨#[]⟩, .int .i32 0, .string ⟨#[]⟩, .int .i32 0, .string ⟨#[]⟩, .int .i32 0, .string ⟨#[]⟩, .int .i32 0, .string ⟨#[]⟩, .int .i32 0, .string ⟨#[]⟩, .int .i32 0, .string ⟨#[]⟩, .int .i32 0, .string ⟨#[]⟩, .int .i32 0, .string ⟨#[]⟩, .int .i32 0, .string ⟨#[]⟩, .int .i32 0, .string ⟨#[]⟩, .int .i32 0]
def nv (k : Nat) : Value := .agg #[.string ⟨(names.getD k ([], 0)).1.toArray⟩, .int .i32 ((names.getD k ([], 0)).2 : Int)]
theorem names_alloc (w : World) : (Instr.alloc 110 true (.tuple #[])).run Tryz.prog w = .ok (.pointer (some ⟨w.heap.size, 0, none⟩)) (w.alloc (.cells zeroCells 110)) := by kernel_rfl
theorem names_load (w : World) : (Instr.loadAt 110 (.pointer (some ⟨w.heap.size, 0, none⟩))).run Tryz.prog (w.alloc (.cells nameCells 110)) = .ok (.agg nameCells) (w.alloc (.cells nameCells 110)) := run_loadAt_new w 110 nameCells 22 109 Tryz.underlying110 (by kernel_rfl)
theorem names_index : ∀ (k : Nat) (hk : k < 22) (w : World), (Instr.index 110 (.agg nameCells) (.int .i64 (k : Int))).run Tryz.prog w = .ok (.agg #[.string ⟨(names[k]'hk).1.toArray⟩, .int .i32 ((names[k]'hk).2 : Int)]) w
  | 0, _, w => by kernel_rfl
  | 1, _, w => by kernel_rfl
  | 2, _, w => by kernel_rfl
  | 3, _, w => by kernel_rfl
  | 4, _, w => by kernel_rfl
  | 5, _, w => by kernel_rfl
  | 6, _, w => by kernel_rfl
  | 7, _, w => by kernel_rfl
  | 8, _, w => by kernel_rfl
  | 9, _, w => by kernel_rfl
  | 10, _, w => by kernel_rfl
  | 11, _, w => by kernel_rfl
  | 12, _, w => by kernel_rfl
  | 13, _, w => by kernel_rfl
  | 14, _, w => by kernel_rfl
  | 15, _, w => by kernel_rfl
  | 16, _, w => by kernel_rfl
  | 17, _, w => by kernel_rfl
  | 18, _, w => by kernel_rfl
  | 19, _, w => by kernel_rfl
  | 20, _, w => by kernel_rfl
  | 21, _, w => by kernel_rfl
  | k + 22, h, _ => by omega

set_option maxHeartbeats 4000000 in
set_option maxRecDepth 100000 in
theorem named_any (s : ByteArray) (w : World) :
    Calls Tryz.prog 69 #[.string s] w fun e w' => e = .returned (optS (named (bl s))) ∧ Below w.heap.size w w' := by
  go_enter Tryz.func69, Tryz.ntmps69
  go_step
  go_step
  rename_i k0
  go_step
  go_step
  rename_i k1
  go_simp
  refine k1 _ _ ?_
  clear k1
  go_step
  rename_i k1
  go_simp
  refine k1 _ _ ?_
  clear k1
  go_step
  go_simp
  refine k0 _ _ ?_
  clear k0
  go_step
  rename_i k0
  go_step
  refine wpList_builds 23 _ _ ⟨#[.string s, undef, .string ⟨#[]⟩, .bool false, undef, undef, undef, nv 0, nv 1, nv 2, nv 3, nv 4, nv 5, nv 6, nv 7, nv 8, nv 9, nv 10, nv 11, nv 12, nv 13, nv 14, nv 15, nv 16, nv 17, nv 18, nv 19, nv 20, nv 21, .agg nameCells, undef, undef, undef, undef, undef, undef, undef, undef, undef, undef, undef, undef], []⟩ (by kernel_rfl) ?_
  simp only [List.drop_succ_cons, List.drop_zero]
  refine wpList_allocV rfl 110 rfl _ (names_alloc w) ?_
  refine wpList_store_row rfl 110 _ _ rfl w.heap.size nameCells rfl rfl 110 zeroCells (heap_alloc_last w _) (by kernel_rfl) (by kernel_rfl) (by kernel_rfl) ?_
  rw [World.setRow_alloc_new]
  go_step
  refine k0 ⟨#[.string s, undef, .string ⟨#[]⟩, .bool false, .pointer (some ⟨w.heap.size, 0, none⟩), undef, undef, nv 0, nv 1, nv 2, nv 3, nv 4, nv 5, nv 6, nv 7, nv 8, nv 9, nv 10, nv 11, nv 12, nv 13, nv 14, nv 15, nv 16, nv 17, nv 18, nv 19, nv 20, nv 21, .agg nameCells, undef, undef, undef, undef, undef, undef, undef, undef, undef, undef, undef, undef], []⟩ _ ?_
  clear k0
  go_step
  go_step
  go_step
  refine wpList_loadV (w' := w.alloc (.cells nameCells 110)) rfl 110 (Operand.tmp 4) rfl (.agg nameCells) ?hx ?_
  case hx => exact names_load w
  obtain ⟨W, hW⟩ : ∃ W, W = w.alloc (.cells nameCells 110) := ⟨_, rfl⟩
  have hb0 : Below w.heap.size w W := by rw [hW]; exact (Below.refl _ w).alloc (Nat.le_refl _) _
  rw [← hW]
  clear hW
  obtain ⟨N, hN⟩ : ∃ N, N = nameCells := ⟨_, rfl⟩
  have hix := names_index
  rw [← hN] at hix ⊢
  clear hN
  simp only [Act.put]
  go_wp2
  go_loopw [31] (fun vi wr => ∃ k : Nat, vi = .int .i64 (k : Int) ∧ k ≤ 22 ∧ Below w.heap.size w wr ∧ Hid (lookN (names.drop k) (bl s) = named (bl s))) (fun vi _ => 22 - (intOf vi).toNat)
  case atStart => exact ⟨0, rfl, by omega, hb0, hide rfl⟩
  case round =>
    obtain ⟨k, rfl, hk, hbw, HL⟩ := hrel
    by_cases hlt : k < 22
    · replace hix := hix k hlt
      have HS : Hid (lookN (names.drop k) (bl s) = if (names[k]'hlt).1 = bl s then some (names[k]'hlt).2 else lookN (names.drop (k + 1)) (bl s)) := hide (by rw [List.drop_eq_getElem_cons (show k < names.length from hlt)]; rfl)
      have hsc : Scalar (names[k]'hlt).2 := .inl (names_facts _ (List.getElem_mem ..)).2.2.1
      generalize (names[k]'hlt) = p at hix HS hsc
      obtain ⟨nm, ch⟩ := p
      simp only at hix HS hsc
      have henc := encode_er ch hsc
      have hch : ch ≤ 1114111 := by unfold Scalar at hsc; omega
      obtain ⟨z, hz⟩ : ∃ z : Int, z = (ch : Int) := ⟨_, rfl⟩
      rw [← hz] at hix henc
      obtain ⟨nb, hnb⟩ : ∃ nb : ByteArray, nb = ⟨nm.toArray⟩ := ⟨_, rfl⟩
      rw [← hnb] at hix
      by_cases he : nb = s
      · have HR : Hid (named (bl s) = some ch) := hide (by rw [← HL.out, HS.out, if_pos (by rw [← he, hnb])])
        have z0 : 0 ≤ z := by omega
        have z1 : z ≤ 1114111 := by omega
        subst he
        clear hnb hz HS HL
        go_wp2
        go_ret2
        rw [HR.out]
        exact ⟨rfl, hbw.alloc hbw.size _⟩
      · have HR : Hid (lookN (names.drop (k + 1)) (bl s) = named (bl s)) := hide (by
          rw [← HL.out, HS.out, if_neg]
          intro e
          apply he
          rw [hnb, e])
        have hnd : (nb.toList == s.toList) = false := beq_ne (fun e => he (by
          cases nb; cases s
          simpa using e))
        have z0 : 0 ≤ z := by omega
        have z1 : z ≤ 1114111 := by omega
        clear hnb hz HS HL he henc
        go_wp2
        exact ⟨⟨k + 1, rfl, by omega, hbw.alloc hbw.size _, HR⟩, by simp [intOf]; omega⟩
    · have hk2 : k = 22 := by omega
      subst hk2
      have HR : Hid (named (bl s) = none) := hide (by rw [← HL.out]; rfl)
      clear HL
      go_wp2
      go_ret2
      rw [HR.out]
      exact ⟨rfl, hbw⟩
end Go.Proofs.YtholfdfjapgfbaaGreatDoor
