/-
  strings.Builder as the first field of a letter: copyCheck, WriteString, WriteByte, String.
-/
import Derived.Test.YtmogplecohkjcaaGreatDoorR9
import Derived.Test.YtmogplecohkjcaaGreatDoorMZ
import Derived.RegionTactic
namespace Go.Proofs.YtmogplecohkjcaaGreatDoor
open Go.RowKit
open Utf1
open Pol8 hiding text right Right
open Msg15

theorem etag_free {w : World} {b : Nat} {cs : Array Value} {t : TypeId} (h : w.heap[b]? = some (.cells cs t (0, 0))) (i : Nat) : w.frozen? ⟨b, i, none⟩ = false := by
  simp [World.frozen?, h]
theorem etok_set {w : World} {b : Nat} {cs : Array Value} {t : TypeId} (h : w.heap[b]? = some (.cells cs t (0, 0))) (j : Nat) (v : Value) : (w.setCell ⟨b, j, none⟩ v).heap[b]? = some (.cells (cs.setIfInBounds j v) t (0, 0)) := by
  simp [World.setCell, Array.getElem?_modify, h]
theorem eown_slice {w : World} {base : Nat} {e : TypeId} {size : Nat} {v : Value} {n : Nat} {xs : List Value} (h : w.ownsRow base e size v n xs) : ∃ p m c, v = .slice p m c := by
  obtain ⟨_, ⟨rfl, _⟩ | ⟨g, cap, cur, rfl, _⟩⟩ := h
  · exact ⟨_, _, _, rfl⟩
  · exact ⟨_, _, _, rfl⟩
theorem eown_apart {w : World} {base : Nat} {e t : TypeId} {size : Nat} {v : Value} {n b : Nat} {xs : List Value} {cs : Array Value} {fz : Nat × Nat} (h : w.ownsRow base e size v n xs) (hb : w.heap[b]? = some (.cells cs t fz)) (hne : e ≠ t) : v.ownBlock ≠ some b := by
  obtain ⟨_, ⟨rfl, _⟩ | ⟨g, cap, cur, rfl, _, hg, _⟩⟩ := h
  · simp [Value.ownBlock]
  · intro e1
    have : g = b := by simpa [Value.ownBlock] using e1
    subst this
    rw [hg] at hb
    simp at hb
    exact hne hb.2.1
theorem eown_set {w : World} {base : Nat} {e t : TypeId} {size : Nat} {v : Value} {n b : Nat} {xs : List Value} {cs : Array Value} {fz : Nat × Nat} (h : w.ownsRow base e size v n xs) (hb : w.heap[b]? = some (.cells cs t fz)) (hne : e ≠ t) (j : Nat) (u : Value) : (w.setCell ⟨b, j, none⟩ u).ownsRow base e size v n xs :=
  ownsRow_setCell_other h (eown_apart h hb hne) u
theorem einfoByte : (Tryz.prog.info? 5).map (fun i => (i.zero, i.size, i.bytes)) = some (some (.int .u8 0), 1, 1) := by kernel_rfl
theorem ecellsByte : Tryz.prog.cellsOf 5 = 1 := by kernel_rfl
theorem esizeBuilder : (Tryz.prog.info? 85).map (·.size) = some 2 := by kernel_rfl
theorem eliesLetter : liesAt Tryz.prog Tryz.prog.depth 89 (17 / Tryz.prog.cellsOf 89) 0 85 1 = true := by kernel_rfl
/-- A letter's block. -/
def LB (w : World) (B : Nat) (a : Nat → Value) (pa bv : Value) : Prop := w.heap[B]? = some (.cells #[pa, bv, a 0, a 1, a 2, a 3, a 4, a 5, a 6, a 7, a 8, a 9, a 10, a 11, a 12, a 13, a 14] 89 (0, 0))
theorem lb_shape {w : World} {B : Nat} {a : Nat → Value} {pa bv : Value} (h : LB w B a pa bv) : w.shape? B = some (89, 17) := by
  unfold LB at h
  simp [World.shape?, h]
theorem lb_set {w : World} {B : Nat} {a : Nat → Value} {pa bv : Value} (h : LB w B a pa bv) (v : Value) : LB (w.setCell ⟨B, 0, none⟩ v) B a v bv ∧ LB (w.setCell ⟨B, 1, none⟩ v) B a pa v := ⟨etok_set h 0 v, etok_set h 1 v⟩

set_option maxRecDepth 100000 in
theorem lcheck_used (w : World) (B : Nat) (a : Nat → Value) (bv : Value) (h : LB w B a (.pointer (some ⟨B, 0, none⟩)) bv) :
    Calls Tryz.prog 103 #[.pointer (some ⟨B, 0, none⟩)] w fun e w' => e = .returned (.tuple #[]) ∧ w' = w := by
  obtain ⟨j, hj, _⟩ := Option.map_eq_some_iff.1 esizeBuilder
  have c1 : w.cell? ⟨B, 0, none⟩ = some (.pointer (some ⟨B, 0, none⟩)) := tag_cell h 0 _ rfl
  clear h
  go_enter Tryz.func103, Tryz.ntmps103
  go_wp2_with fail
  rw [Lib.run_neq_ptr_same w _ Tryz.underlying82 hj]
  go_wp2
  go_end0
  exact ⟨rfl, rfl⟩

set_option maxRecDepth 100000 in
theorem lcheck_none (w : World) (B : Nat) (a : Nat → Value) (bv : Value) (h : LB w B a (.pointer none) bv) :
    Calls Tryz.prog 103 #[.pointer (some ⟨B, 0, none⟩)] w fun e w' => e = .returned (.tuple #[]) ∧ w' = w.setCell ⟨B, 0, none⟩ (.pointer (some ⟨B, 0, none⟩)) := by
  obtain ⟨j, hj, hjs⟩ := Option.map_eq_some_iff.1 esizeBuilder
  have hsh := lb_shape h
  have c1 : w.cell? ⟨B, 0, none⟩ = some (.pointer none) := tag_cell h 0 _ rfl
  have f1 := etag_free h 0
  clear h
  go_enter Tryz.func103, Tryz.ntmps103
  go_wp2_with fail
  rw [Lib.run_to_unsafe w ⟨B, 0, none⟩ Tryz.underlying82 Tryz.underlying139 hj (by rw [hjs]; decide) hsh (show 0 < 17 by decide)]
  simp only [Result.andThen]
  rw [Oper.upon_value]
  go_wp2_with fail
  rw [run_callFunc_extern Tryz.func114 (by kernel_rfl) (by kernel_rfl) (by kernel_rfl) (e := Extern.AbiNoEscape.same) (by kernel_rfl)]
  rw [Lib.run_noEscape]
  simp only [Result.andThen]
  rw [Oper.upon_value]
  go_wp2_with fail
  rw [Lib.run_from_unsafe w ⟨B, 0, none⟩ Tryz.underlying139 Tryz.underlying82 hj hsh eliesLetter]
  simp only [Result.andThen]
  rw [Oper.upon_value]
  go_wp2
  go_end0
  exact ⟨rfl, rfl⟩

/-- The letter so far. -/
def LWa (w : World) (base B : Nat) (a : Nat → Value) (pa : Value) (acc : L) : Prop := ∃ bv, LB w B a pa bv ∧ w.ownsRow base 5 1 bv (Lib.byteCells acc).length (Lib.byteCells acc)
/-- What else there is stays, but rows of bytes. -/
def KpB (B : Nat) (w w' : World) : Prop := ∀ (k : Nat) (cs : Array Value) (ty : TypeId), w.heap[k]? = some (.cells cs ty (0, 0)) → ty ≠ 5 → k ≠ B → w'.heap[k]? = some (.cells cs ty (0, 0))
theorem KpB.refl (B : Nat) (w : World) : KpB B w w := fun _ _ _ h _ _ => h
theorem KpB.below {B : Nat} {S w w' : World} (h : KpB B S w) (hb : Below w.heap.size w w') : KpB B S w' := fun k cs ty h1 h2 h3 => by
  have h4 := h k cs ty h1 h2 h3
  exact (hb.block k (Array.getElem?_eq_some_iff.1 h4).1).trans h4
theorem KpB.set {B : Nat} {S w : World} (h : KpB B S w) (j : Nat) (v : Value) : KpB B S (w.setCell ⟨B, j, none⟩ v) := fun k cs ty h1 h2 h3 => by
  rw [Below.heap_setCell _ _ _ _ (by simpa using h3)]
  exact h k cs ty h1 h2 h3
theorem KpB.grown {B base : Nat} {S w w' : World} {v : Value} {n : Nat} {xs : List Value} (h : KpB B S w) (hown : w.ownsRow base 5 1 v n xs) (hg : w.grownBy w' v.ownBlock) : KpB B S w' := fun k cs ty h1 h2 h3 => by
  have h4 := h k cs ty h1 h2 h3
  exact (hg.block k (Array.getElem?_eq_some_iff.1 h4).1 (fun e => eown_apart hown h4 (fun e2 => h2 e2.symm) e.symm)).trans h4
def LW (S w0 w : World) (B : Nat) (a : Nat → Value) (acc : L) : Prop := w0.heap.size ≤ B ∧ (Below w0.heap.size w0 w ∧ KpB B S w) ∧ (LWa w w0.heap.size B a (.pointer none) acc ∨ LWa w w0.heap.size B a (.pointer (some ⟨B, 0, none⟩)) acc)
theorem ebyte_len (a : L) : (Lib.byteCells a).length = a.length := by simp [Lib.byteCells]
theorem lcheck_any (S w0 w : World) (B : Nat) (a : Nat → Value) (acc : L) (h : LW S w0 w B a acc) :
    Calls Tryz.prog 103 #[.pointer (some ⟨B, 0, none⟩)] w fun e w' => e = .returned (.tuple #[]) ∧ LWa w' w0.heap.size B a (.pointer (some ⟨B, 0, none⟩)) acc ∧ Below w0.heap.size w0 w' ∧ KpB B S w' := by
  obtain ⟨hB, ⟨hb, hk⟩, ⟨bv, h1, h2⟩ | ⟨bv, h1, h2⟩⟩ := h
  · refine (lcheck_none w B a bv h1).mono ?_
    rintro e w' ⟨rfl, rfl⟩
    exact ⟨rfl, ⟨bv, (lb_set h1 _).1, eown_set h2 h1 (by decide) 0 _⟩, hb.setCell (p := ⟨B, 0, none⟩) hB _, hk.set 0 _⟩
  · refine (lcheck_used w B a bv h1).mono ?_
    rintro e w' ⟨rfl, rfl⟩
    exact ⟨rfl, ⟨bv, h1, h2⟩, hb, hk⟩
theorem LWa.out {w : World} {base B : Nat} {a : Nat → Value} {pa : Value} {acc : L} (h : LWa w base B a pa acc) : ∃ bp bm bc, w.cell? ⟨B, 1, none⟩ = some (.slice bp bm bc) ∧ w.frozen? ⟨B, 1, none⟩ = false ∧ B < w.heap.size ∧ LB w B a pa (.slice bp bm bc) ∧ w.ownsRow base 5 1 (.slice bp bm bc) (Lib.byteCells acc).length (Lib.byteCells acc) := by
  obtain ⟨bv, h1, h2⟩ := h
  obtain ⟨bp, bm, bc, rfl⟩ := eown_slice h2
  exact ⟨bp, bm, bc, tag_cell h1 1 _ rfl, etag_free h1 1, (Array.getElem?_eq_some_iff.1 h1).1, h1, h2⟩

set_option maxRecDepth 100000 in
set_option maxHeartbeats 4000000 in
theorem lws_any (S w0 w : World) (B : Nat) (a : Nat → Value) (acc : L) (s : ByteArray) (h : LW S w0 w B a acc) (hl : acc.length + s.size ≤ 100000000) :
    Calls Tryz.prog 89 #[.pointer (some ⟨B, 0, none⟩), .string s] w fun e w' => e = .returned (.tuple #[.int .i64 (s.size : Int), .nilIface]) ∧ LW S w0 w' B a (acc ++ bl s) := by
  obtain ⟨i0, hi, hz0, hz1, hz2⟩ := info_parts einfoByte
  have HC := hide (lcheck_any S w0 w B a acc h)
  have HB0 := hide h.1
  have HE : Hid (Lib.byteCells (acc ++ bl s) = Lib.byteCells acc ++ Lib.strCells s) := hide (by rw [Lib.byteCells_append]; rfl)
  have HEL : Hid ((Lib.byteCells (acc ++ bl s)).length = (Lib.byteCells acc).length + s.size) := hide (by rw [ebyte_len, ebyte_len, List.length_append, bl_len])
  rw [← ebyte_len acc] at hl
  clear h
  go_enter Tryz.func89, Tryz.ntmps89
  go_wp2_with fail
  refine HC.out.mono ?_
  rintro e w1 ⟨rfl, h1, hb, hk⟩
  have HKP := hide hk
  clear hk
  obtain ⟨bp, bm, bc, c2, f2, hBl, hlb, hown⟩ := h1.out
  have HB := hide hlb
  have HO := hide hown
  have HBE := hide hb
  clear HC h1 hlb hown hb
  generalize (Lib.byteCells acc) = xs at *
  go_wp2_with (at_builtin; refine Lib.wpList_append_own_string _ rfl _ _ 83 9 rfl w0.heap.size 5 i0 Tryz.underlying83 Tryz.underlying9 hi hz0 hz1 hz2 (.slice bp bm bc) xs.length xs rfl HO.out s rfl (by unfold maxLen; omega) (by omega) (by have := HB0.out; omega) ?_)
  intro v' w2 hown2 hgr2 _
  have hap := eown_apart HO.out HB.out (by decide)
  have hb2 : LB w2 B a (.pointer (some ⟨B, 0, none⟩)) (.slice bp bm bc) := (hgr2.block _ hBl (fun e => hap e.symm)).trans HB.out
  have d2 : w2.cell? ⟨B, 1, none⟩ = some (.slice bp bm bc) := tag_cell hb2 1 _ rfl
  have g2 := etag_free hb2 1
  obtain ⟨vp, vm, vc, rfl⟩ := eown_slice hown2
  have HX : Hid (LW S w0 (w2.setCell ⟨B, 1, none⟩ (.slice vp vm vc)) B a (acc ++ bl s)) := hide (by
    refine ⟨HB0.out, ⟨?_, (HKP.out.grown HO.out hgr2).set 1 _⟩, .inr ⟨.slice vp vm vc, (lb_set hb2 _).2, ?_⟩⟩
    · exact (HBE.out.grown hgr2 (by have := HB0.out; omega) (fun j hj => (HO.out.lt j hj).1)).setCell (p := ⟨B, 1, none⟩) HB0.out _
    · rw [HEL.out, HE.out]
      exact eown_set hown2 hb2 (by decide) 1 _)
  clear hown2 hgr2 hap hb2 HB HO HBE
  go_wp2_with fail
  go_ret2
  exact ⟨rfl, HX.out⟩

set_option maxRecDepth 100000 in
set_option maxHeartbeats 4000000 in
theorem lwb_any (S w0 w : World) (B : Nat) (a : Nat → Value) (acc : L) (c : UInt8) (z : Int) (hz : z = (c.toNat : Int)) (h : LW S w0 w B a acc) (hl : acc.length ≤ 100000000) :
    Calls Tryz.prog 90 #[.pointer (some ⟨B, 0, none⟩), .int .u8 z] w fun e w' => e = .returned .nilIface ∧ LW S w0 w' B a (acc ++ [c]) := by
  obtain ⟨i0, hi, hz0, hz1, hz2⟩ := info_parts einfoByte
  have HC := hide (lcheck_any S w0 w B a acc h)
  have HB0 := hide h.1
  have HE : Hid (Lib.byteCells (acc ++ [c]) = Lib.byteCells acc ++ [.int .u8 z]) := hide (by rw [Lib.byteCells_append, hz]; rfl)
  have HEL : Hid ((Lib.byteCells (acc ++ [c])).length = (Lib.byteCells acc).length + 1) := hide (by rw [ebyte_len, ebyte_len, List.length_append]; rfl)
  rw [← ebyte_len acc] at hl
  clear h hz
  go_enter Tryz.func90, Tryz.ntmps90
  go_wp2_with fail
  refine HC.out.mono ?_
  rintro e w1 ⟨rfl, h1, hb, hk⟩
  have HKP := hide hk
  clear hk
  obtain ⟨bp, bm, bc, c2, f2, hBl, hlb, hown⟩ := h1.out
  have HB := hide hlb
  have HO := hide hown
  have HBE := hide hb
  clear HC h1 hlb hown hb
  generalize (Lib.byteCells acc) = xs at *
  go_wp2_with (at_builtin; refine wpList_append_own _ rfl _ _ 83 rfl w0.heap.size 5 i0 (.int .u8 0) 1 1 Tryz.underlying83 hi hz0 hz1 hz2 rfl (by decide) (.slice bp bm bc) xs.length xs rfl (HO.out.alloc _) ⟨w1.heap.size, 0, none⟩ 1 1 [.int .u8 z] rfl rfl (one_new _ _ _) (by simp [Value.oneCell']) (by unfold maxLen; omega) (by omega) (by have := HB0.out; simp; omega) ?_)
  intro v' w2 hown2 hgr2 _
  have hap := eown_apart HO.out HB.out (by decide)
  have hb2 : LB w2 B a (.pointer (some ⟨B, 0, none⟩)) (.slice bp bm bc) := (hgr2.block _ (by simp; omega) (fun e => hap e.symm)).trans (((Below.refl w1.heap.size w1).alloc (Nat.le_refl _) _).block _ hBl |>.trans HB.out)
  have d2 : w2.cell? ⟨B, 1, none⟩ = some (.slice bp bm bc) := tag_cell hb2 1 _ rfl
  have g2 := etag_free hb2 1
  obtain ⟨vp, vm, vc, rfl⟩ := eown_slice hown2
  have HX : Hid (LW S w0 (w2.setCell ⟨B, 1, none⟩ (.slice vp vm vc)) B a (acc ++ [c])) := hide (by
    refine ⟨HB0.out, ⟨?_, ((HKP.out.below (bel_alloc (Below.refl _ _) _)).grown (HO.out.alloc _) hgr2).set 1 _⟩, .inr ⟨.slice vp vm vc, (lb_set hb2 _).2, ?_⟩⟩
    · exact ((HBE.out.alloc HBE.out.size _).grown hgr2 (by have := HB0.out; simp; omega) (fun j hj => (HO.out.lt j hj).1)).setCell (p := ⟨B, 1, none⟩) HB0.out _
    · rw [HEL.out, HE.out]
      exact eown_set hown2 hb2 (by decide) 1 _)
  clear hown2 hgr2 hap hb2 HB HO HBE
  go_wp2_with fail
  go_ret
  exact ⟨rfl, HX.out⟩

set_option maxRecDepth 100000 in
set_option maxHeartbeats 2000000 in
theorem lstring_any (S w0 w : World) (B : Nat) (a : Nat → Value) (t : L) (h : LW S w0 w B a t) (h0 : t ≠ []) :
    Calls Tryz.prog 77 #[.pointer (some ⟨B, 0, none⟩)] w fun e w' => e = .returned (.string ⟨t.toArray⟩) ∧ Below w0.heap.size w0 w' := by
  obtain ⟨hB, ⟨hb, -⟩, hor⟩ := h
  obtain ⟨pa, bv, hlb, hown⟩ : ∃ pa bv, LB w B a pa bv ∧ w.ownsRow w0.heap.size 5 1 bv (Lib.byteCells t).length (Lib.byteCells t) := by
    rcases hor with ⟨bv, h1, h2⟩ | ⟨bv, h1, h2⟩
    · exact ⟨_, bv, h1, h2⟩
    · exact ⟨_, bv, h1, h2⟩
  have hl0 : t.length ≠ 0 := by simpa using h0
  rw [ebyte_len] at hown
  obtain ⟨g, cap, cur, rfl, hbg, hg, hnc, hcm, hcs, htake⟩ : ∃ g cap cur, bv = .slice (some ⟨g, 0, none⟩) t.length cap ∧ w0.heap.size ≤ g ∧ w.heap[g]? = some (.cells cur 5 (0, 0)) ∧ t.length ≤ cap ∧ cap ≤ maxLen ∧ cur.size = cap * 1 ∧ cur.toList.take (t.length * 1) = Lib.byteCells t := by
    rcases hown.2 with ⟨_, hz⟩ | ⟨g, cap, cur, hv, r⟩
    · exact absurd hz hl0
    · exact ⟨g, cap, cur, hv, r⟩
  have c2 : w.drew.cell? ⟨B, 1, none⟩ = some (.slice (some ⟨g, 0, none⟩) t.length cap) := tag_cell hlb 1 _ rfl
  have hSD : (Builtin.unsafeSliceData_ #[83] 122 #[.slice (some ⟨g, 0, none⟩) t.length cap]).run Tryz.prog w.drew = .ok (.pointer (some ⟨g, 0, none⟩)) w.drew :=
    Lib.run_unsafeSliceData_row _ _ _ _ _ _ (by omega)
  have hUS : (Builtin.unsafeString_ #[122, 3] 9 #[.pointer (some ⟨g, 0, none⟩), .int .i64 t.length]).run Tryz.prog w.drew = .ok (.string ⟨t.toArray⟩) (w.drew.freeze ⟨g, 0, none⟩ t.length) := by
    refine Lib.run_unsafeString_row w.drew 122 3 9 5 Tryz.underlying122 ecellsByte g cur.size (by have hg' : w.drew.heap[g]? = some (.cells cur 5 (0, 0)) := hg; simp [World.shape?, hg']) t h0 (by omega) (by unfold maxLen at hcm; omega) ?_
    intro j x hx
    have := hown.cells (g := g) rfl j (.int .u8 x.toNat) (by simp [Lib.byteCells, hx])
    exact this
  have HF : Hid (Below w0.heap.size w0 (w.drew.freeze ⟨g, 0, none⟩ t.length)) := hide (Lib.below_freeze (Below.drew hb) (p := ⟨g, 0, none⟩) hbg t.length)
  clear hown hor hb hlb hg htake hcs hB
  go_enter Tryz.func77, Tryz.ntmps77
  go_wp2_with fail
  go_region
  all_goals (go_wp2_with fail; go_ret; exact ⟨rfl, HF.out⟩)
end Go.Proofs.YtmogplecohkjcaaGreatDoor
