/-
  versolaw03.awake: it is true.
-/
import Derived.Test.YtjmgcdeinjamiaaDoorB7
namespace Go.Proofs.YtjmgcdeinjamiaaDoor
open Go.RowKit
open Utf1

theorem aw_toks : toks [97, 60, 98, 32, 99, 61, 49, 32, 100, 47, 62, 120, 60, 47, 98, 62] = [⟨1, [], [], false, [97]⟩, ⟨2, [98], [([99], [49]), ([100], [])], true, []⟩, ⟨1, [], [], false, [120]⟩, ⟨3, [98], [], false, []⟩] := by kernel_rfl

theorem own_len {w : World} {base : Nat} {e : TypeId} {size : Nat} {v : Value} {n : Nat} {xs : List Value} (h : w.ownsRow base e size v n xs) : ∃ p c, v = .slice p n c := by
  obtain ⟨_, ⟨rfl, rfl⟩ | ⟨g, cap, cur, rfl, _⟩⟩ := h
  · exact ⟨_, _, rfl⟩
  · exact ⟨_, _, rfl⟩

theorem four_of {l : List (Tk × Value)} {a b c d : Tk} (h : l.map Prod.fst = [a, b, c, d]) : ∃ x y z u, l = [(a, x), (b, y), (c, z), (d, u)] := by
  match l, h with
  | [(a', x), (b', y), (c', z), (d', u)], h =>
    simp at h
    obtain ⟨rfl, rfl, rfl, rfl⟩ := h
    exact ⟨x, y, z, u, rfl⟩

set_option maxHeartbeats 2000000 in
theorem awake_any (w : World) (hg : Glob w) (hgm : GlobM w) : Calls Tryd.prog 9 #[] w fun e w' => e = .returned (.bool true) ∧ Below w.heap.size w w' := by
  have ht := tokens_any ⟨#[97, 60, 98, 32, 99, 61, 49, 32, 100, 47, 62, 120, 60, 47, 98, 62]⟩ w (by decide) hg hgm
  rw [show toks (bl ⟨#[97, 60, 98, 32, 99, 61, 49, 32, 100, 47, 62, 120, 60, 47, 98, 62]⟩) = _ from aw_toks] at ht
  go_enter Tryd.func9, Tryd.ntmps9
  go_wp2_with fail
  refine ht.mono ?_
  rintro e w1 ⟨v, l, rfl, hl, htk, hb1⟩
  obtain ⟨x, y, z, u, rfl⟩ := four_of hl
  obtain ⟨g, cap, rfl, -⟩ := toks_slice htk (by simp)
  have hy : ∃ p c, y = .slice p 2 c := own_len (htk.2 (_, y) (List.mem_cons_of_mem _ (List.mem_cons_self ..)))
  obtain ⟨yp, yc, rfl⟩ := hy
  have c4 : w1.cell? ⟨g, 4, none⟩ = some (.string ⟨#[97]⟩) := tok_at htk 0 _ rfl 4 (by decide)
  have c8 : w1.cell? ⟨g, 8, none⟩ = some (.bool true) := tok_at htk 1 _ rfl 3 (by decide)
  have c7 : w1.cell? ⟨g, 7, none⟩ = some (.slice yp 2 yc) := tok_at htk 1 _ rfl 2 (by decide)
  have c15 : w1.cell? ⟨g, 15, none⟩ = some (.int .i64 3) := tok_at htk 3 _ rfl 0 (by decide)
  clear hl htk ht
  go_wp2_with fail
  go_ret
  exact ⟨rfl, hb1⟩
end Go.Proofs.YtjmgcdeinjamiaaDoor
