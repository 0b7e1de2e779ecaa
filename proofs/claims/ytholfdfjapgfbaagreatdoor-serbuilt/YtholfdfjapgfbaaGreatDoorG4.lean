/-
  strings.Builder as a field at offset 1 of the tree's builder: Len, Reset, copyCheck.
-/
import Derived.Test.YtholfdfjapgfbaaGreatDoorG3
import Derived.Lib.AppendStr
import Derived.Lib.UnsafeStr
namespace Go.Proofs.YtholfdfjapgfbaaGreatDoor.Dm
open Go.RowKit
open Utf1

/-- The builder's block. -/
def BB (w : World) (B : Nat) (ov pa bv x y : Value) : Prop := w.heap[B]? = some (.cells #[ov, pa, bv, x, y] 55 (0, 0))

theorem blen_any (w : World) (B : Nat) (ov pa : Value) (p : Option Addr) (m c : Nat) (x y : Value) (h : BB w B ov pa (.slice p m c) x y) :
    Calls Tryz.prog 38 #[.pointer (some ⟨B, 1, none⟩)] w fun e w' => e = .returned (.int .i64 (m : Int)) ∧ w' = w := by
  have c2 : w.cell? ⟨B, 2, none⟩ = some (.slice p m c) := tag_cell h 2 _ rfl
  clear h
  go_enter Tryz.func38, Tryz.ntmps38
  go_wp2_with fail
  go_ret
  exact ⟨rfl, rfl⟩

theorem breset_any (w : World) (B : Nat) (ov pa bv x y : Value) (h : BB w B ov pa bv x y) :
    Calls Tryz.prog 39 #[.pointer (some ⟨B, 1, none⟩)] w fun e w' => e = .returned (.tuple #[]) ∧ w' = (w.setCell ⟨B, 1, none⟩ (.pointer none)).setCell ⟨B, 2, none⟩ (.slice none 0 0) := by
  have c1 : w.cell? ⟨B, 1, none⟩ = some pa := tag_cell h 1 _ rfl
  have c2 : w.cell? ⟨B, 2, none⟩ = some bv := tag_cell h 2 _ rfl
  have f1 := tag_free h 1
  have f2 := tag_free h 2
  clear h
  go_enter Tryz.func39, Tryz.ntmps39
  go_wp2_with fail
  go_end0
  exact ⟨rfl, rfl⟩

theorem sizeBuilder : (Tryz.prog.info? 51).map (·.size) = some 2 := by kernel_rfl
theorem liesBuilder : liesAt Tryz.prog Tryz.prog.depth 55 (5 / Tryz.prog.cellsOf 55) 1 51 1 = true := by kernel_rfl
theorem bb_shape {w : World} {B : Nat} {ov pa bv x y : Value} (h : BB w B ov pa bv x y) : w.shape? B = some (55, 5) := by
  unfold BB at h
  simp [World.shape?, h]

set_option maxRecDepth 100000 in
theorem bcheck_used (w : World) (B : Nat) (ov bv x y : Value) (h : BB w B ov (.pointer (some ⟨B, 1, none⟩)) bv x y) :
    Calls Tryz.prog 71 #[.pointer (some ⟨B, 1, none⟩)] w fun e w' => e = .returned (.tuple #[]) ∧ w' = w := by
  obtain ⟨j, hj, _⟩ := Option.map_eq_some_iff.1 sizeBuilder
  have c1 : w.cell? ⟨B, 1, none⟩ = some (.pointer (some ⟨B, 1, none⟩)) := tag_cell h 1 _ rfl
  clear h
  go_enter Tryz.func71, Tryz.ntmps71
  go_wp2_with fail
  rw [Lib.run_neq_ptr_same w _ Tryz.underlying48 hj]
  go_wp2
  go_end0
  exact ⟨rfl, rfl⟩

set_option maxRecDepth 100000 in
theorem bcheck_none (w : World) (B : Nat) (ov bv x y : Value) (h : BB w B ov (.pointer none) bv x y) :
    Calls Tryz.prog 71 #[.pointer (some ⟨B, 1, none⟩)] w fun e w' => e = .returned (.tuple #[]) ∧ w' = w.setCell ⟨B, 1, none⟩ (.pointer (some ⟨B, 1, none⟩)) := by
  obtain ⟨j, hj, hjs⟩ := Option.map_eq_some_iff.1 sizeBuilder
  have hsh := bb_shape h
  have c1 : w.cell? ⟨B, 1, none⟩ = some (.pointer none) := tag_cell h 1 _ rfl
  have f1 := tag_free h 1
  clear h
  go_enter Tryz.func71, Tryz.ntmps71
  go_wp2_with fail
  rw [Lib.run_to_unsafe w ⟨B, 1, none⟩ Tryz.underlying48 Tryz.underlying114 hj (by rw [hjs]; decide) hsh (show 1 < 5 by decide)]
  simp only [Result.andThen]
  rw [Oper.upon_value]
  go_wp2_with fail
  rw [run_callFunc_extern Tryz.func79 (by kernel_rfl) (by kernel_rfl) (by kernel_rfl) (e := Extern.AbiNoEscape.same) (by kernel_rfl)]
  rw [Lib.run_noEscape]
  simp only [Result.andThen]
  rw [Oper.upon_value]
  go_wp2_with fail
  rw [Lib.run_from_unsafe w ⟨B, 1, none⟩ Tryz.underlying114 Tryz.underlying48 hj hsh liesBuilder]
  simp only [Result.andThen]
  rw [Oper.upon_value]
  go_wp2
  go_end0
  exact ⟨rfl, rfl⟩

theorem infoByte : (Tryz.prog.info? 5).map (fun i => (i.zero, i.size, i.bytes)) = some (some (.int .u8 0), 1, 1) := by kernel_rfl
theorem bb_set {w : World} {B : Nat} {ov pa bv x y : Value} (h : BB w B ov pa bv x y) (v : Value) : BB (w.setCell ⟨B, 1, none⟩ v) B ov v bv x y ∧ BB (w.setCell ⟨B, 2, none⟩ v) B ov pa v x y := ⟨tok_set h 1 v, tok_set h 2 v⟩
theorem stays_set {w : World} {B : Nat} {ov pa bv x y : Value} (h : BB w B ov pa bv x y) (j : Nat) (v : Value) : Stays w (w.setCell ⟨B, j, none⟩ v) [B] := by
  refine ⟨by simp, fun k hk hS => Below.heap_setCell _ _ _ _ (by simpa using hS), fun k hk cs fz e => ?_⟩
  have : k = B := by simpa using hk
  subst this
  unfold BB at h
  rw [h] at e
  simp at e
theorem Stays.trans {a b c : World} {S T : List Nat} (h : Stays a b S) (h' : Stays b c T) (hT : ∀ k ∈ T, k < a.heap.size → ∀ cs fz, a.heap[k]? ≠ some (.cells cs 38 fz)) : Stays a c (S ++ T) := by
  refine ⟨Nat.le_trans h.size h'.size, fun k hk hS => ?_, fun k hk cs fz e => ?_⟩
  · have h1 : k ∉ S := fun h1 => hS (List.mem_append_left _ h1)
    have h2 : k ∉ T := fun h2 => hS (List.mem_append_right _ h2)
    exact (h'.block k (Nat.lt_of_lt_of_le hk h.size) h2).trans (h.block k hk h1)
  · rcases List.mem_append.1 hk with hk | hk
    · exact h.attr k hk cs fz e
    · exact hT k hk (Array.getElem?_eq_some_iff.1 e).1 cs fz e

set_option maxRecDepth 100000 in
set_option maxHeartbeats 4000000 in
theorem bwrite_at (w0 w : World) (B base : Nat) (ov bv x y : Value) (l : List Value) (s : ByteArray) (hck : Calls Tryz.prog 71 #[.pointer (some ⟨B, 1, none⟩)] w0 fun e w' => e = .returned (.tuple #[]) ∧ w' = w) (h : BB w B ov (.pointer (some ⟨B, 1, none⟩)) bv x y) (hown : w.ownsRow base 5 1 bv l.length l) (hl : l.length + s.size ≤ 100000000) (hbB : base ≤ B) :
    Calls Tryz.prog 54 #[.pointer (some ⟨B, 1, none⟩), .string s] w0 fun e w' => e = .returned (.tuple #[.int .i64 (s.size : Int), .nilIface]) ∧ ∃ bv', BB w' B ov (.pointer (some ⟨B, 1, none⟩)) bv' x y ∧ w'.ownsRow base 5 1 bv' (l.length + s.size) (l ++ Lib.strCells s) ∧ Stays w w' (B :: blk bv) ∧ Below base w w' := by
  obtain ⟨i0, hi, hz0, hz1, hz2⟩ := info_parts infoByte
  have HC := hide hck
  clear hck
  obtain ⟨bp, bm, bc, rfl⟩ := own_slice hown
  have c2 : w.cell? ⟨B, 2, none⟩ = some (.slice bp bm bc) := tag_cell h 2 _ rfl
  have hBl : B < w.heap.size := lt_of_block h
  have HB := hide h
  have HO := hide hown
  clear h hown
  go_enter Tryz.func54, Tryz.ntmps54
  go_wp2_with fail
  refine HC.out.mono ?_
  rintro e w1 ⟨rfl, rfl⟩
  clear HC
  go_wp2_with (at_builtin; refine Lib.wpList_append_own_string _ rfl _ _ 49 9 rfl base 5 i0 Tryz.underlying49 Tryz.underlying9 hi hz0 hz1 hz2 (.slice bp bm bc) l.length l rfl HO.out s rfl (by unfold maxLen; omega) (by omega) (by omega) ?_)
  intro v' w2 hown2 hgr2 _
  have hap := own_apart HO.out HB.out (by decide)
  have hb2 : BB w2 B ov (.pointer (some ⟨B, 1, none⟩)) (.slice bp bm bc) x y := (hgr2.block _ hBl (fun e => hap e.symm)).trans HB.out
  have d2 : w2.cell? ⟨B, 2, none⟩ = some (.slice bp bm bc) := tag_cell hb2 2 _ rfl
  have g2 := tag_free hb2 2
  obtain ⟨vp, vm, vc, rfl⟩ := own_slice hown2
  have HX : Hid (BB (w2.setCell ⟨B, 2, none⟩ (.slice vp vm vc)) B ov (.pointer (some ⟨B, 1, none⟩)) (.slice vp vm vc) x y ∧ (w2.setCell ⟨B, 2, none⟩ (.slice vp vm vc)).ownsRow base 5 1 (.slice vp vm vc) (l.length + s.size) (l ++ Lib.strCells s) ∧ Stays w1 (w2.setCell ⟨B, 2, none⟩ (.slice vp vm vc)) (B :: blk (.slice bp bm bc)) ∧ Below base w1 (w2.setCell ⟨B, 2, none⟩ (.slice vp vm vc))) := hide (by
    refine ⟨(bb_set hb2 _).2, own_set hown2 hb2 (by decide) 2 _, ⟨?_, ?_, ?_⟩, ?_⟩
    · simpa using hgr2.size
    · intro k hk hS
      have h1 : k ≠ B := fun e => hS (by rw [e]; exact List.mem_cons_self ..)
      rw [Below.heap_setCell _ _ _ _ (by simpa using h1)]
      refine hgr2.block k hk fun e => hS (List.mem_cons_of_mem _ ?_)
      unfold blk
      rw [← e]
      simp
    · intro k hk cs fz e
      rcases List.mem_cons.1 hk with rfl | hk
      · have := HB.out
        unfold BB at this
        rw [this] at e
        simp at e
      · have h2 : (Value.slice bp bm bc).ownBlock = some k := by
          unfold blk at hk
          simpa using hk
        exact own_apart HO.out e (by decide) h2
    · have hg : Below base w1 w2 := (Below.refl base w1).grown hgr2 (by omega) (fun j hj => (HO.out.lt j hj).1)
      exact hg.setCell (p := ⟨B, 2, none⟩) hbB _)
  clear hown2 hgr2 hap hb2 HB HO
  go_wp2_with fail
  go_ret2
  exact ⟨rfl, _, HX.out⟩

/-- The text that waits: the Builder's own cells and bytes. -/
def Wait (w : World) (base B : Nat) (pa bv : Value) (t : List UInt8) : Prop := (pa = .pointer none ∨ pa = .pointer (some ⟨B, 1, none⟩)) ∧ w.ownsRow base 5 1 bv (Lib.byteCells t).length (Lib.byteCells t)
theorem str_cells (s : ByteArray) : Lib.strCells s = Lib.byteCells (bl s) := rfl
theorem byte_app (a b : List UInt8) : Lib.byteCells (a ++ b) = Lib.byteCells a ++ Lib.byteCells b := by simp [Lib.byteCells]
theorem byte_len (a : List UInt8) : (Lib.byteCells a).length = a.length := by simp [Lib.byteCells]

theorem bwrite_any (w : World) (B base : Nat) (ov pa bv x y : Value) (t : List UInt8) (s : ByteArray) (h : BB w B ov pa bv x y) (hw : Wait w base B pa bv t) (hl : t.length + s.size ≤ 100000000) (hbB : base ≤ B) :
    Calls Tryz.prog 54 #[.pointer (some ⟨B, 1, none⟩), .string s] w fun e w' => e = .returned (.tuple #[.int .i64 (s.size : Int), .nilIface]) ∧ ∃ pa' bv', BB w' B ov pa' bv' x y ∧ Wait w' base B pa' bv' (t ++ bl s) ∧ Stays w w' (B :: blk bv) ∧ Below base w w' := by
  have hlen : (Lib.byteCells t).length + s.size ≤ 100000000 := by rw [byte_len]; exact hl
  have hfin : ∀ {w' : World} {bv' : Value}, w'.ownsRow base 5 1 bv' ((Lib.byteCells t).length + s.size) (Lib.byteCells t ++ Lib.strCells s) → w'.ownsRow base 5 1 bv' (Lib.byteCells (t ++ bl s)).length (Lib.byteCells (t ++ bl s)) := by
    intro w' bv' h
    rw [byte_app, List.length_append, byte_len (bl s), bl_len]
    exact h
  obtain ⟨hp | hp, hown⟩ := hw
  · subst hp
    have h1 := (bb_set h (.pointer (some ⟨B, 1, none⟩))).1
    refine (bwrite_at w _ B base ov bv x y _ s (bcheck_none w B ov bv x y h) h1 (own_set hown h (by decide) 1 _) hlen hbB).mono ?_
    rintro e w' ⟨rfl, bv', h2, h3, h4, h5⟩
    have hst := stays_set h 1 (.pointer (some ⟨B, 1, none⟩))
    refine ⟨rfl, _, bv', h2, ⟨.inr rfl, hfin h3⟩, ?_, ((Below.refl base w).setCell (p := ⟨B, 1, none⟩) hbB _).trans h5⟩
    have h6 := hst.trans h4 (by
      intro k hk hkl cs fz e
      rcases List.mem_cons.1 hk with rfl | hk
      · unfold BB at h
        rw [h] at e
        simp at e
      · have h2 : bv.ownBlock = some k := by
          unfold blk at hk
          simpa using hk
        exact own_apart hown e (by decide) h2)
    exact ⟨h6.size, fun k hk hS => h6.block k hk (by simpa using hS), fun k hk => h6.attr k (by simpa using hk)⟩
  · subst hp
    refine (bwrite_at w w B base ov bv x y _ s (bcheck_used w B ov bv x y h) h hown hlen hbB).mono ?_
    rintro e w' ⟨rfl, bv', h2, h3, h4, h5⟩
    exact ⟨rfl, _, bv', h2, ⟨.inr rfl, hfin h3⟩, h4, h5⟩
end Go.Proofs.YtholfdfjapgfbaaGreatDoor.Dm
