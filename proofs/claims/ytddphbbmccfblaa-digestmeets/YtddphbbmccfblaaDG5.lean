/-
  What is asked of digest.Lacks, Join and Short; awake.
-/
import Derived.Test.YtddphbbmccfblaaDG4
namespace Go.Proofs.Ytddphbbmccfblaa
open Go.RowKit
open Utf1
open Pol8 hiding text right Right
open Dg16

/-- A row that rises, of just these members, that is read. -/
def RowP (w' : World) (P : Pol8.L → Prop) (e : Ending) : Prop := ∃ v' R, e = .returned v' ∧ StrArg w' v' R ∧ Ri (R.map bl) P
/-- Lists that are not too long, of texts that are not too long. -/
def Few (ls : List ByteArray) : Prop := ls.length ≤ 10000 ∧ ∀ x ∈ ls, x.size ≤ 10000
def LacksC : Prop := ∀ (v u : Value) (ls bs : List ByteArray) (w : World), Few ls → Few bs → StrArg w v ls → StrArg w u bs →
  Calls Try.prog 12 #[v, u] w fun e w' => RowP w' (fun y => y ∈ bs.map bl ∧ y ∉ ls.map bl) e ∧ Below w.heap.size w w'
def JoinC : Prop := ∀ (v u : Value) (ls bs : List ByteArray) (w : World), Few ls → Few bs → StrArg w v ls → StrArg w u bs →
  Calls Try.prog 14 #[v, u] w fun e w' => RowP w' (fun y => y ∈ ls.map bl ∨ y ∈ bs.map bl) e ∧ Below w.heap.size w w'
/-- The first of a list, as many as there is room for, that are read. -/
def ShP (w' : World) (ls : List ByteArray) (zs : List Int) (most : Int) (e : Ending) : Prop := ∃ v' k, e = .returned v' ∧ StrArg w' v' (ls.take k) ∧ Sh ls.length zs most k
def ShortC : Prop := ∀ (v u : Value) (ls : List ByteArray) (zs : List Int) (most : Int) (w : World), Few ls → (zs.length ≤ 1000 ∧ ∀ z ∈ zs, z ≤ 1000000) → ls.length ≤ 1000 → most ≤ 9223372036854775807 → StrCap w v ls → IntArg w u zs →
  Calls Try.prog 17 #[v, u, .int .i64 most] w fun e w' => ShP w' ls zs most e ∧ Below w.heap.size w w'
theorem list_two {R : List ByteArray} {a b : ByteArray} (h : R.map bl = [bl a, bl b]) : R = [a, b] := by
  match R, h with
  | [], h => simp at h
  | [_], h => simp at h
  | _ :: _ :: _ :: _, h => simp at h
  | [x, y], h =>
    injection h with h1 h2
    injection h2 with h2 _
    rw [ba_ext h1, ba_ext h2]
theorem strArg_shape {w : World} {v : Value} {ss : List ByteArray} (h : StrArg w v ss) : ∃ p c, v = .slice p ss.length c := by
  obtain ⟨p, c, e, -, -⟩ := h
  exact ⟨p, c, e⟩
theorem intArg_row (w : World) (l : List Int) (t : TypeId) : IntArg (w.alloc (.cells (l.map fun z => Value.int .i64 z).toArray t)) (.slice (some ⟨w.heap.size, 0, none⟩) l.length l.length) l := by
  refine ⟨some ⟨w.heap.size, 0, none⟩, l.length, rfl, fun i s h => ⟨w.heap.size, 0, rfl, ?_⟩⟩
  have hb : (w.alloc (.cells (l.map fun z => Value.int .i64 z).toArray t)).heap[w.heap.size]? = some (.cells (l.map fun z => Value.int .i64 z).toArray t (0, 0)) := by
    show (w.heap.push _)[w.heap.size]? = _
    simp
  unfold World.cell?
  rw [hb]
  simp [h]
abbrev xA : ByteArray := ⟨#[97]⟩
abbrev xB : ByteArray := ⟨#[98]⟩
abbrev xC : ByteArray := ⟨#[99]⟩
abbrev xD : ByteArray := ⟨#[100]⟩
theorem few_small {ls : List ByteArray} (h : ls.length ≤ 10000 ∧ (ls.all fun x => decide (x.size ≤ 10000)) = true) : Few ls := ⟨h.1, fun x hx => of_decide_eq_true (List.all_eq_true.1 h.2 x hx)⟩
theorem aw_lacks {R : List ByteArray} (h : Ri (R.map bl) (fun y => y ∈ [xC, xB, xA, xD].map bl ∧ y ∉ [xA, xC].map bl)) : R = [xB, xD] := by
  refine list_two (h.one (P' := fun y => y = [98] ∨ y = [100]) ⟨by decide, fun x => by simp⟩ (fun y => ?_))
  show y ∈ [[99], [98], [97], [100]] ∧ y ∉ [[97], [99]] ↔ _
  simp only [List.mem_cons, List.not_mem_nil, or_false, not_or]
  constructor
  · rintro ⟨h1 | h1 | h1 | h1, h2, h3⟩
    · exact absurd h1 h3
    · exact .inl h1
    · exact absurd h1 h2
    · exact .inr h1
  · rintro (rfl | rfl)
    · exact ⟨.inr (.inl rfl), by decide, by decide⟩
    · exact ⟨.inr (.inr (.inr rfl)), by decide, by decide⟩
theorem aw_join {R : List ByteArray} (h : Ri (R.map bl) (fun y => y ∈ [xB, xA].map bl ∨ y ∈ [xA].map bl)) : R = [xA, xB] := by
  refine list_two (h.one (P' := fun y => y = [97] ∨ y = [98]) ⟨by decide, fun x => by simp⟩ (fun y => ?_))
  show y ∈ [[98], [97]] ∨ y ∈ [[97]] ↔ _
  simp only [List.mem_cons, List.not_mem_nil, or_false]
  constructor
  · rintro ((h1 | h1) | h1)
    · exact .inr h1
    · exact .inl h1
    · exact .inl h1
  · rintro (h1 | h1)
    · exact .inr h1
    · exact .inl (.inl h1)
theorem aw_short {k : Nat} (h : Sh 3 [2, 1, 1] 3 k) : k = 2 := h.one (k' := 2) ⟨by omega, fun i h1 h2 => by
  have : i = 1 := by omega
  subst this
  decide, .inr ⟨by omega, by decide⟩⟩

set_option maxRecDepth 100000 in
set_option maxHeartbeats 8000000 in
theorem dawake_any (hL : LacksC) (hJ : JoinC) (hS : ShortC) (w : World) :
    Calls Try.prog 9 #[] w fun e w' => e = .returned (.bool true) ∧ Below w.heap.size w w' := by
  have size1 : ∀ (wx : World) (o : Obj), (wx.alloc o).heap.size = wx.heap.size + 1 := fun wx o => by simp
  have CL : Hid (Calls Try.prog 12 #[.slice (some ⟨w.heap.size, 0, none⟩) 2 2, .slice (some ⟨w.heap.size + 1, 0, none⟩) 4 4] ((w.alloc (.cells #[.string xA, .string xC] 9)).alloc (.cells #[.string xC, .string xB, .string xA, .string xD] 9)) fun e w' => RowP w' (fun y => y ∈ [xC, xB, xA, xD].map bl ∧ y ∉ [xA, xC].map bl) e ∧ Below ((w.alloc (.cells #[.string xA, .string xC] 9)).alloc (.cells #[.string xC, .string xB, .string xA, .string xD] 9)).heap.size ((w.alloc (.cells #[.string xA, .string xC] 9)).alloc (.cells #[.string xC, .string xB, .string xA, .string xD] 9)) w') := hide (by
    refine hL _ _ _ _ _ (few_small (by decide)) (few_small (by decide)) ((strArg_row w [xA, xC] 9).below (bel_alloc (Below.refl _ _) _)) ?_
    have h := strArg_row (w.alloc (.cells #[.string xA, .string xC] 9)) [xC, xB, xA, xD] 9
    rw [size1] at h
    exact h)
  have CJ : Hid (∀ wx : World, Calls Try.prog 14 #[.slice (some ⟨wx.heap.size, 0, none⟩) 2 2, .slice (some ⟨wx.heap.size + 1, 0, none⟩) 1 1] ((wx.alloc (.cells #[.string xB, .string xA] 9)).alloc (.cells #[.string xA] 9)) fun e w' => RowP w' (fun y => y ∈ [xB, xA].map bl ∨ y ∈ [xA].map bl) e ∧ Below wx.heap.size wx w') := hide (fun wx => by
    refine (hJ _ _ [xB, xA] [xA] _ (few_small (by decide)) (few_small (by decide)) ((strArg_row wx [xB, xA] 9).below (bel_alloc (Below.refl _ _) _)) ?_).mono (fun e w' ⟨h1, h2⟩ => ⟨h1, bel2 (bel_alloc (bel_alloc (Below.refl _ _) _) _) h2⟩)
    have h := strArg_row (wx.alloc (.cells #[.string xB, .string xA] 9)) [xA] 9
    rw [size1] at h
    exact h)
  have CS : Hid (∀ wx : World, Calls Try.prog 17 #[.slice (some ⟨wx.heap.size, 0, none⟩) 3 3, .slice (some ⟨wx.heap.size + 1, 0, none⟩) 3 3, .int .i64 3] ((wx.alloc (.cells #[.string ⟨#[97, 97, 97]⟩, .string ⟨#[98, 98]⟩, .string ⟨#[99, 99]⟩] 9)).alloc (.cells #[.int .i64 2, .int .i64 1, .int .i64 1] 3)) fun e w' => ShP w' [⟨#[97, 97, 97]⟩, ⟨#[98, 98]⟩, ⟨#[99, 99]⟩] [2, 1, 1] 3 e ∧ Below wx.heap.size wx w') := hide (fun wx => by
    refine (hS _ _ [⟨#[97, 97, 97]⟩, ⟨#[98, 98]⟩, ⟨#[99, 99]⟩] [2, 1, 1] 3 _ (few_small (by decide)) ⟨by decide, by decide⟩ (by decide) (by decide) ⟨(strArg_row wx [⟨#[97, 97, 97]⟩, ⟨#[98, 98]⟩, ⟨#[99, 99]⟩] 9).below (bel_alloc (Below.refl _ _) _), _, _, _, rfl, Nat.le_refl _⟩ ?_).mono (fun e w' ⟨h1, h2⟩ => ⟨h1, bel2 (bel_alloc (bel_alloc (Below.refl _ _) _) _) h2⟩)
    have h := intArg_row (wx.alloc (.cells #[.string ⟨#[97, 97, 97]⟩, .string ⟨#[98, 98]⟩, .string ⟨#[99, 99]⟩] 9)) [2, 1, 1] 3
    rw [size1] at h
    exact h)
  clear size1 hL hJ hS
  go_enter Try.func9, Try.ntmps9
  go_wp2_with fail
  refine CL.out.mono ?_
  rintro e w2 ⟨⟨v2, R2, rfl, hs2, hr2⟩, hb2⟩
  have hR2 := aw_lacks hr2
  subst hR2
  obtain ⟨p2, c2, rfl⟩ := strArg_shape hs2
  have HS2 := hide hs2
  have HB2 : Hid (Below w.heap.size w w2) := hide (bel2 (bel_alloc (bel_alloc (Below.refl _ _) _) _) hb2)
  clear hs2 hr2 hb2 CL
  go_wp2_with fail
  refine (CJ.out w2).mono ?_
  rintro e w3 ⟨⟨v3, R3, rfl, hs3, hr3⟩, hb3⟩
  have hR3 := aw_join hr3
  subst hR3
  obtain ⟨p3, c3, rfl⟩ := strArg_shape hs3
  have HS3 := hide hs3
  have HS2' := hide (HS2.out.below hb3)
  have HB3 := hide (bel2 HB2.out hb3)
  clear hs3 hr3 hb3 CJ HS2 HB2
  go_wp2_with fail
  refine (CS.out w3).mono ?_
  rintro e w4 ⟨⟨v4, k, rfl, hs4, hk⟩, hb4⟩
  have hk2 := aw_short hk
  subst hk2
  obtain ⟨p4, c4, rfl⟩ := strArg_shape hs4
  have HS2 := hide (HS2'.out.below hb4)
  have HS3' := hide (HS3.out.below hb4)
  have HB4 := hide (bel2 HB3.out hb4)
  clear hs4 hk hb4 CS HS2' HS3 HB3
  obtain ⟨b2, o2, rfl, y2⟩ := strArg_cell HS2.out (i := 0) (x := xB) rfl
  obtain ⟨b3, o3, rfl, y3⟩ := strArg_cell HS3'.out (i := 0) (x := xA) rfl
  rw [Nat.add_zero] at y2 y3
  go_wp2_with fail
  go_ret
  exact ⟨rfl, HB4.out⟩
end Go.Proofs.Ytddphbbmccfblaa
