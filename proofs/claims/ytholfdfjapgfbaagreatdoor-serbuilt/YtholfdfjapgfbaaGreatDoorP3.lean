/-
  What strconv.ParseUint, refs.numbered and refs.standsFor answer.
-/
import Derived.Test.YtholfdfjapgfbaaGreatDoorP1
import Derived.Test.YtholfdfjapgfbaaGreatDoorP2
namespace Go.Proofs.YtholfdfjapgfbaaGreatDoor
open Go.RowKit
open Utf1

theorem cell_lt {w : World} {x : Addr} {v : Value} (h : w.cell? x = some v) : x.block < w.heap.size := by
  unfold World.cell? at h
  cases hb : w.heap[x.block]? with
  | none => rw [hb] at h; simp at h
  | some o => exact (Array.getElem?_eq_some_iff.1 hb).1

/-- The library's variable for a wrong spelling holds something. -/
def Glob (w : World) : Prop := ∃ te pe, w.cell? ⟨1, 0, none⟩ = some (.iface te pe)
theorem Glob.below {w w' : World} (h : Glob w) (hb : Below w.heap.size w w') : Glob w' := by
  obtain ⟨te, pe, hc⟩ := h
  exact ⟨te, pe, (hb.cell (p := ⟨1, 0, none⟩) (cell_lt hc)).trans hc⟩

theorem bl_nil {t : ByteArray} : bl t = [] ↔ t.size = 0 := by
  rw [← bl_len]
  exact List.length_eq_zero_iff.symm

/-- Digits that are there, as a number. -/
def numE (b : Nat) (l : List UInt8) : Option Nat := if l = [] then none else num b 0 l
theorem numS_numE (b : Nat) (l : List UInt8) : numS b l = (numE b l).map chN := by
  unfold numS numE
  split <;> rfl

set_option maxRecDepth 100000 in
theorem parse_empty (b : Int) (w : World) :
    Calls Tryz.prog 81 #[.string ⟨#[]⟩, .int .i64 b, .int .i64 32] w fun e w' => e = .returned (parsed none) ∧ w' = w := by
  go_enter Tryz.func81, Tryz.ntmps81
  go_wp2
  go_ret2
  exact ⟨rfl, rfl⟩

theorem inner_any (b : Nat) (hb : b = 10 ∨ b = 16) (t : ByteArray) (hmax : t.size ≤ 7) (w : World) :
    Calls Tryz.prog 81 #[.string t, .int .i64 (b : Int), .int .i64 32] w fun e w' => e = .returned (parsed (numE b (bl t))) ∧ Below w.heap.size w w' := by
  by_cases h0 : t.size = 0
  · have e : t = ⟨#[]⟩ := by
      have := bl_nil.2 h0
      cases t
      simp at this
      rw [this]
    subst e
    refine (parse_empty (b : Int) w).mono ?_
    rintro e w' ⟨rfl, rfl⟩
    exact ⟨rfl, Below.refl _ _⟩
  · have hE : numE b (bl t) = num b 0 (bl t) := by
      unfold numE
      rw [if_neg (fun h => h0 (bl_nil.1 h))]
    rw [hE]
    rcases hb with rfl | rfl
    · exact parse10 t h0 hmax w
    · exact parse16 t h0 hmax w

set_option maxHeartbeats 1000000 in
theorem parseU_some (b : Nat) (hb : b = 10 ∨ b = 16) (t : ByteArray) (hmax : t.size ≤ 7) (n : Nat) (hn : numE b (bl t) = some n) (w : World) :
    Calls Tryz.prog 78 #[.string t, .int .i64 (b : Int), .int .i64 32] w fun e w' => e = .returned (.tuple #[.int .u64 (n : Int), .nilIface]) ∧ Below w.heap.size w w' := by
  have hI := inner_any b hb t hmax w
  rw [hn] at hI
  have hI : Calls Tryz.prog 81 #[.string t, .int .i64 (b : Int), .int .i64 32] w fun e w' => e = .returned (.tuple #[.int .u64 (n : Int), .nilIface]) ∧ Below w.heap.size w w' := hI
  clear hn hb
  obtain ⟨z, hz⟩ : ∃ z : Int, z = (n : Int) := ⟨_, rfl⟩
  obtain ⟨c, hc⟩ : ∃ c : Int, c = (b : Int) := ⟨_, rfl⟩
  rw [← hz, ← hc] at hI ⊢
  clear hz hc
  go_enter Tryz.func78, Tryz.ntmps78
  go_wp2_with (go_at_call 81; refine hI.mono ?_; rintro e w1 ⟨rfl, hb1⟩)
  go_ret2
  exact ⟨rfl, hb1⟩

set_option maxHeartbeats 1000000 in
theorem parseU_none (b : Nat) (hb : b = 10 ∨ b = 16) (t : ByteArray) (hmax : t.size ≤ 7) (hn : numE b (bl t) = none) (w : World) (hg : Glob w) :
    Calls Tryz.prog 78 #[.string t, .int .i64 (b : Int), .int .i64 32] w fun e w' => ∃ N, e = .returned (.tuple #[.int .u64 0, .iface 122 (.pointer (some ⟨N, 0, none⟩))]) ∧ Below w.heap.size w w' := by
  have hI := inner_any b hb t hmax w
  rw [hn] at hI
  have hI : Calls Tryz.prog 81 #[.string t, .int .i64 (b : Int), .int .i64 32] w fun e w' => e = .returned (.tuple #[.int .u64 0, .iface 120 (.int .i64 2)]) ∧ Below w.heap.size w w' := hI
  clear hn hb
  obtain ⟨c, hc⟩ : ∃ c : Int, c = (b : Int) := ⟨_, rfl⟩
  rw [← hc] at hI ⊢
  clear hc
  go_enter Tryz.func78, Tryz.ntmps78
  go_wp2_with fail
  refine hI.mono ?_
  rintro e w1 ⟨rfl, hb1⟩
  obtain ⟨te, pe, hc⟩ := hg.below hb1
  go_wp2_with fail
  refine (Tryz.strconv_toError_syntax _ t c 32 _ _ (by omega) hc (Or.inr ⟨te, pe, rfl⟩)).mono ?_
  rintro e w2 ⟨N, rfl, _, _, hb2⟩
  go_wp2_with fail
  go_ret2
  exact ⟨N, rfl, hb1.trans (hb2.mono hb1.size)⟩
end Go.Proofs.YtholfdfjapgfbaaGreatDoor
