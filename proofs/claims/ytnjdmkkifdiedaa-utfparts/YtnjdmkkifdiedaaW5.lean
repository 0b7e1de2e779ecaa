/-
  The first look that each law takes (awake) answers true.
-/
import Derived.Test.YtnjdmkkifdiedaaW4
import Derived.Lib.SlBytesConst
namespace Go.Proofs.Ytnjdmkkifdiedaa
open Go.RowKit
open Utf1

theorem awake_fix : fix [97, 13, 10, 98, 255] = [97, 10, 98, 239, 191, 189] := by
  unfold fix
  have h : runes [97, 13, 10, 98, 255] = [97, 13, 10, 98, 65533] := by
    rw [runes_step _ (by simp), show dl [97, 13, 10, 98, 255] = (97, 1) from by decide]
    show 97 :: runes [13, 10, 98, 255] = _
    rw [runes_step _ (by simp), show dl [13, 10, 98, 255] = (13, 1) from by decide]
    show 97 :: 13 :: runes [10, 98, 255] = _
    rw [runes_step _ (by simp), show dl [10, 98, 255] = (10, 1) from by decide]
    show 97 :: 13 :: 10 :: runes [98, 255] = _
    rw [runes_step _ (by simp), show dl [98, 255] = (98, 1) from by decide]
    show 97 :: 13 :: 10 :: 98 :: runes [255] = _
    rw [runes_step _ (by simp), show dl [255] = (65533, 1) from by decide]
    show 97 :: 13 :: 10 :: 98 :: 65533 :: runes [] = _
    rw [runes_nil]
  rw [h]
  decide
theorem awake_many : (runes [195, 169]).length = 1 := by
  rw [runes_step _ (by simp), show dl [195, 169] = (233, 2) from by decide]
  show (233 :: runes []).length = 1
  rw [runes_nil]
  rfl


theorem aw1 (v : Value) (w : World) (h : IsBytes w v [97, 13, 10, 98, 255]) :
    Calls Try.prog 10 #[v] w fun e w' => e = .returned (.string ⟨#[97, 10, 98, 239, 191, 189]⟩) ∧ Below w.heap.size w w' := by
  have := fix_any v _ w h (by decide)
  rw [awake_fix] at this
  exact this
theorem aw2 (w : World) : Calls Try.prog 16 #[.string ⟨#[65, 98]⟩] w fun e w' => e = .returned (.string ⟨#[97, 98]⟩) ∧ Below w.heap.size w w' := lower_any ⟨#[65, 98]⟩ w
theorem aw3 (w : World) : Calls Try.prog 14 #[.string ⟨#[195, 169]⟩] w fun e w' => e = .returned (.int .i64 1) ∧ Below w.heap.size w w' := by
  have := many_any ⟨#[195, 169]⟩ w (by decide)
  have e : (runes (bl ⟨#[195, 169]⟩)).length = 1 := awake_many
  rw [e] at this
  exact this

/-- Bytes that stand in a block that was just laid. -/
theorem isBytes_new (w : World) (C : Array Value) (fz : Nat × Nat) (l : List UInt8) (cap : Nat) (n : Nat) (hn : n = l.length) (h : ∀ j (hj : j < l.length), C[j]? = some (.int .u8 (l[j].toNat : Int))) :
    IsBytes (w.alloc (.cells C 5 fz)) (.slice (some ⟨w.heap.size, 0, none⟩) n cap) l := by
  subst hn
  refine .inr ⟨⟨w.heap.size, 0, none⟩, cap, rfl, fun j hj => ?_⟩
  rw [add_zero_at, World.cell?_alloc_mark]
  exact h j hj

theorem cells_of (l : List UInt8) (j : Nat) (hj : j < l.length) : ((l.map fun b => Value.int .u8 (b.toNat : Int)).toArray)[j]? = some (.int .u8 (l[j].toNat : Int)) := by
  simp [hj]

set_option maxHeartbeats 1000000 in
theorem awake_any (w : World) : Calls Try.prog 9 #[] w fun e w' => e = .returned (.bool true) ∧ Below w.heap.size w w' := by
  have kc := fun (w : World) (C : Array Value) (n c : Nat) => Lib.run_convert_bytes_const (P := Try.prog) w 22 5 C n c Try.underlying22 Try.underlying5
  go_enter Try.func9, Try.ntmps9
  go_wp2_with fail
  refine (aw1 _ _ (isBytes_new _ _ _ [97, 13, 10, 98, 255] _ _ rfl (cells_of [97, 13, 10, 98, 255]))).mono ?_
  rintro e w1 ⟨rfl, hb1⟩
  go_wp2_with fail
  refine (aw2 _).mono ?_
  rintro e w2 ⟨rfl, hb2⟩
  go_wp2_with fail
  refine (aw3 _).mono ?_
  rintro e w3 ⟨rfl, hb3⟩
  go_wp2_with fail
  go_ret
  exact ⟨rfl, (((Below.refl _ w).alloc (Nat.le_refl _) _).trans (hb1.mono (by simp))).trans ((hb2.mono (by have := hb1.size; simp at this; omega)).trans (hb3.mono (by have := hb1.size; have := hb2.size; simp at *; omega)))⟩
end Go.Proofs.Ytnjdmkkifdiedaa
