/-
  versolaw05.awake: a page.
-/
import Derived.Test.YtholfdfjapgfbaaN10
import Derived.Test.YtholfdfjapgfbaaN3
namespace Utf1
/-- The page of awake. -/
def awN : List Nd := [.mk [112] [([105, 100], [34])] [] [.mk [] [] [97, 60] [], .mk [98, 114] [] [] []]]
theorem awN_ht : htL awN = [60, 112, 32, 105, 100, 61, 34, 38, 113, 117, 111, 116, 59, 34, 62, 97, 38, 108, 116, 59, 60, 98, 114, 62, 60, 47, 112, 62] := by decide +kernel
theorem awN_st : stable awN = true := by decide +kernel
theorem awN_nc : ncL awN = 3 := by decide +kernel
end Utf1
namespace Go.Proofs.Ytholfdfjapgfbaa
open Go.RowKit
open Utf1

/-- Where one cell of a row is told, and where a row has one node, or two. -/
theorem arow_one {w : World} {g : Nat} {a b : List UInt8} (ha : a.length ≤ 281474976710656) (hb : b.length ≤ 281474976710656) (h0 : w.cell? ⟨g, 0, none⟩ = some (.string ⟨a.toArray⟩)) (h1 : w.cell? ⟨g, 1, none⟩ = some (.string ⟨b.toArray⟩)) : ARow w (some ⟨g, 0, none⟩) 1 [(a, b)] := by
  refine ⟨⟨rfl, by decide⟩, ?_⟩
  intro i kv hi
  match i, hi with
  | 0, hi =>
    have : (a, b) = kv := by simpa using hi
    subst this
    exact ⟨g, 0, rfl, h0, h1, ha, hb⟩
  | i + 1, hi => simp at hi
/-- A node at a place. -/
def NodeAt (w : World) (d g off : Nat) (nd : Nd) : Prop := ∃ ap am ac kp km kc, w.cell? ⟨g, off, none⟩ = some (.string ⟨nd.name.toArray⟩) ∧ w.cell? ⟨g, off + 1, none⟩ = some (.slice ap am ac) ∧ w.cell? ⟨g, off + 2, none⟩ = some (.string ⟨nd.text.toArray⟩) ∧ w.cell? ⟨g, off + 3, none⟩ = some (.slice kp km kc) ∧ (nd.name.length ≤ 281474976710656 ∧ nd.text.length ≤ 281474976710656) ∧ ARow w ap am nd.attrs ∧ NAtD w d (.slice kp km kc) nd.kids
theorem natD_row {w : World} {d g c : Nat} {ns : List Nd} (hl : ns.length ≤ 9223372036854775807) (h : ∀ i nd, ns[i]? = some nd → NodeAt w d g (i * 4) nd) : NAtD w (d + 1) (.slice (some ⟨g, 0, none⟩) ns.length c) ns := by
  refine ⟨_, _, rfl, hl, ?_⟩
  intro i nd hi
  obtain ⟨ap, am, ac, kp, km, kc, x0, x1, x2, x3, h⟩ := h i nd hi
  refine ⟨g, 0, ap, am, ac, kp, km, kc, rfl, ?_, ?_, ?_, ?_, h⟩
  · rw [Nat.zero_add]; exact x0
  · rw [Nat.zero_add]; exact x1
  · rw [Nat.zero_add]; exact x2
  · rw [Nat.zero_add]; exact x3
theorem natD_nil (w : World) (d : Nat) : NAtD w (d + 1) (.slice none 0 0) [] := ⟨none, 0, rfl, by decide, fun i nd h => by simp at h⟩
theorem node_leaf {w : World} {g off : Nat} {n t : List UInt8} (hn : n.length ≤ 281474976710656) (ht : t.length ≤ 281474976710656) (h0 : w.cell? ⟨g, off, none⟩ = some (.string ⟨n.toArray⟩)) (h1 : w.cell? ⟨g, off + 1, none⟩ = some (.slice none 0 0)) (h2 : w.cell? ⟨g, off + 2, none⟩ = some (.string ⟨t.toArray⟩)) (h3 : w.cell? ⟨g, off + 3, none⟩ = some (.slice none 0 0)) : NodeAt w 1 g off (.mk n [] t []) :=
  ⟨none, 0, 0, none, 0, 0, h0, h1, h2, h3, ⟨hn, ht⟩, arow_nil w, natD_nil w 0⟩

set_option maxRecDepth 100000 in
set_option maxHeartbeats 8000000 in
theorem awake_nst (w : World) : Calls Try.prog 6 #[] w fun e w' => e = .returned (.bool true) ∧ Below w.heap.size w w' := by
  obtain ⟨wa, hwa⟩ : ∃ wa, wa = w.alloc (.cells #[.string ⟨#[105, 100]⟩, .string ⟨#[34]⟩] 34) := ⟨_, rfl⟩
  obtain ⟨wb, hwb⟩ : ∃ wb, wb = wa.alloc (.cells #[.string ⟨#[]⟩, .slice none 0 0, .string ⟨#[97, 60]⟩, .slice none 0 0, .string ⟨#[98, 114]⟩, .slice none 0 0, .string ⟨#[]⟩, .slice none 0 0] 29) := ⟨_, rfl⟩
  obtain ⟨wc, hwc⟩ : ∃ wc, wc = wb.alloc (.cells #[.string ⟨#[112]⟩, .slice (some ⟨w.heap.size, 0, none⟩) 1 1, .string ⟨#[]⟩, .slice (some ⟨w.heap.size + 1, 0, none⟩) 2 2] 29) := ⟨_, rfl⟩
  have sa : wa.heap.size = w.heap.size + 1 := by rw [hwa]; simp
  have sb : wb.heap.size = w.heap.size + 1 + 1 := by rw [hwb]; simp [sa]
  have ba : Below w.heap.size w wa := by rw [hwa]; exact (Below.refl _ _).alloc (Nat.le_refl _) _
  have bb : Below wa.heap.size wa wb := by rw [hwb]; exact (Below.refl _ _).alloc (Nat.le_refl _) _
  have bc : Below wb.heap.size wb wc := by rw [hwc]; exact (Below.refl _ _).alloc (Nat.le_refl _) _
  have ca : ∀ j v, (#[.string ⟨#[105, 100]⟩, .string ⟨#[34]⟩] : Array Value)[j]? = some v → wc.cell? ⟨w.heap.size, j, none⟩ = some v := fun j v h => cell_keep (cell_keep (by rw [hwa, new_cell]; exact h) bb) bc
  have cb : ∀ j v, (#[.string ⟨#[]⟩, .slice none 0 0, .string ⟨#[97, 60]⟩, .slice none 0 0, .string ⟨#[98, 114]⟩, .slice none 0 0, .string ⟨#[]⟩, .slice none 0 0] : Array Value)[j]? = some v → wc.cell? ⟨w.heap.size + 1, j, none⟩ = some v := fun j v h => cell_keep (by rw [hwb, ← sa, new_cell]; exact h) bc
  have cc : ∀ j v, (#[.string ⟨#[112]⟩, .slice (some ⟨w.heap.size, 0, none⟩) 1 1, .string ⟨#[]⟩, .slice (some ⟨w.heap.size + 1, 0, none⟩) 2 2] : Array Value)[j]? = some v → wc.cell? ⟨w.heap.size + 1 + 1, j, none⟩ = some v := fun j v h => by rw [hwc, ← sb, new_cell]; exact h
  have hkids : NAtD wc 2 (.slice (some ⟨w.heap.size + 1, 0, none⟩) 2 2) [.mk [] [] [97, 60] [], .mk [98, 114] [] [] []] := by
    refine natD_row (ns := [.mk [] [] [97, 60] [], .mk [98, 114] [] [] []]) (by decide) ?_
    intro i nd hi
    match i, hi with
    | 0, hi =>
      have : Nd.mk [] [] [97, 60] [] = nd := by simpa using hi
      subst this
      exact node_leaf (by decide) (by decide) (cb 0 _ rfl) (cb 1 _ rfl) (cb 2 _ rfl) (cb 3 _ rfl)
    | 1, hi =>
      have : Nd.mk [98, 114] [] [] [] = nd := by simpa using hi
      subst this
      exact node_leaf (by decide) (by decide) (cb 4 _ rfl) (cb 5 _ rfl) (cb 6 _ rfl) (cb 7 _ rfl)
    | i + 2, hi => simp at hi
  have htop : NAt wc (.slice (some ⟨w.heap.size + 1 + 1, 0, none⟩) 1 1) awN := by
    refine ⟨3, natD_row (ns := awN) (by decide) ?_⟩
    intro i nd hi
    match i, hi with
    | 0, hi =>
      have : Nd.mk [112] [([105, 100], [34])] [] [.mk [] [] [97, 60] [], .mk [98, 114] [] [] []] = nd := by simpa [awN] using hi
      subst this
      exact ⟨_, _, _, _, _, _, cc 0 _ rfl, cc 1 _ rfl, cc 2 _ rfl, cc 3 _ rfl, ⟨by decide, by decide⟩, arow_one (by decide) (by decide) (ca 0 _ rfl) (ca 1 _ rfl), hkids⟩
    | i + 1, hi => simp [awN] at hi
  have HH := hide (html_nst wc _ awN htop (by rw [awN_ht]; decide))
  have HS := hide (fun wx (hx : Below wc.heap.size wc wx) => stable_nst wx _ awN (htop.below hx) (by rw [awN_nc]; decide))
  rw [awN_ht] at HH
  rw [awN_st] at HS
  have HB := hide (bel2 (bel2 ba bb) bc)
  have hwc2 : wc = ((w.alloc (.cells #[.string ⟨#[105, 100]⟩, .string ⟨#[34]⟩] 34)).alloc (.cells #[.string ⟨#[]⟩, .slice none 0 0, .string ⟨#[97, 60]⟩, .slice none 0 0, .string ⟨#[98, 114]⟩, .slice none 0 0, .string ⟨#[]⟩, .slice none 0 0] 29)).alloc (.cells #[.string ⟨#[112]⟩, .slice (some ⟨w.heap.size, 0, none⟩) 1 1, .string ⟨#[]⟩, .slice (some ⟨w.heap.size + 1, 0, none⟩) 2 2] 29) := by rw [hwc, hwb, hwa]
  clear htop hkids ca cb cc ba bb bc sa sb hwa hwb hwc
  go_enter Try.func6, Try.ntmps6
  go_wp2_with fail
  rw [← hwc2]
  clear hwc2
  refine HH.out.mono ?_
  rintro e w2 ⟨⟨O, rfl, hO⟩, hb2⟩
  have hO2 : O = ⟨#[60, 112, 32, 105, 100, 61, 34, 38, 113, 117, 111, 116, 59, 34, 62, 97, 38, 108, 116, 59, 60, 98, 114, 62, 60, 47, 112, 62]⟩ := by rw [← bl_eta O, hO]
  subst hO2
  have HS2 := hide (HS.out w2 hb2)
  have HB2 := hide (bel2 HB.out hb2)
  clear hb2 HS HH HB hO
  go_wp2_with fail
  refine HS2.out.mono ?_
  rintro e w3 ⟨rfl, hb3⟩
  have HB3 := hide (bel2 HB2.out hb3)
  clear hb3 HS2 HB2
  go_wp2_with fail
  go_ret
  exact ⟨rfl, HB3.out⟩
end Go.Proofs.Ytholfdfjapgfbaa
