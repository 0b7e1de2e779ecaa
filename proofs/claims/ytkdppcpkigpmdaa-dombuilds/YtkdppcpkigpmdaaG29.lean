/-
  dom.Text.
-/
import Derived.Test.YtkdppcpkigpmdaaG28
namespace Utf1
mutual
/-- All text of a node. -/
def txtN : Nd → List UInt8
  | .mk _ _ t k => t ++ txtL k
def txtL : List Nd → List UInt8
  | [] => []
  | n :: r => txtN n ++ txtL r
end
theorem txtN_kids (n : Nd) : txtN n = n.text ++ txtL n.kids := by
  cases n
  rw [txtN]
  rfl
theorem txtL_app : ∀ a b : List Nd, txtL (a ++ b) = txtL a ++ txtL b
  | [], b => by simp [txtL]
  | n :: a, b => by rw [List.cons_append, txtL, txtL, txtL_app a b, List.append_assoc]
end Utf1
namespace Go.Proofs.Ytkdppcpkigpmdaa
open Go.RowKit
open Utf1

theorem builder_lt {T e : TypeId} {B b : Nat} {bs : List Value} {w : World} (h : Lib.IsBuilderF T e B b bs w) : b < w.heap.size := by
  rcases h with h | h
  · obtain ⟨_, v, hb, _⟩ := h
    exact (Array.getElem?_eq_some_iff.1 hb).1
  · obtain ⟨_, v, hb, _⟩ := h
    exact (Array.getElem?_eq_some_iff.1 hb).1

set_option maxRecDepth 100000 in
set_option maxHeartbeats 8000000 in
theorem writeText_st (w0 : World) (base : Nat) : ∀ (M : Nat) (w : World) (v : Value) (ns : List Nd) (fp : List Nat) (acc : List UInt8), cntL ns ≤ M → M ≤ 1000000000 → KAt w0 base v ns fp → Below w0.heap.size w0 w → Lib.IsBuilderF 45 5 w0.heap.size w0.heap.size (Lib.byteCells acc) w → acc.length + (txtL ns).length ≤ 1000000000 →
    Calls Try.prog 29 #[.pointer (some ⟨w0.heap.size, 0, none⟩), v] w fun e w' => e = .returned (.tuple #[]) ∧ Lib.IsBuilderF 45 5 w0.heap.size w0.heap.size (Lib.byteCells (acc ++ txtL ns)) w' ∧ Below w0.heap.size w w' := by
  intro M
  induction M using Nat.strongRecOn with
  | _ M ih =>
  intro w v ns fp acc hM hM2 hk hb hbu hlen
  obtain ⟨p, c, rfl, hnode⟩ := kat_node hk
  have HNODE := hide hnode
  have HBW := hide hb
  have HBU := hide hbu
  have HIH := hide ih
  have hlc := len_cnt ns
  obtain ⟨N, hN⟩ : ∃ N, N = ns.length := ⟨_, rfl⟩
  rw [← hN] at hlc ⊢
  have HN := hide hN
  clear hnode hb hk ih hN hbu
  go_enter Try.func29, Try.ntmps29
  go_wp2_with fail
  go_loopg [8] N (fun k v8 wr => ∃ (j : Nat) (d rest : List Nd), rest.length = k ∧ d.length = j ∧ j + k = N ∧ v8 = .int .i64 (j : Int) ∧ Hid (ns = d ++ rest) ∧ Hid (Lib.IsBuilderF 45 5 w0.heap.size w0.heap.size (Lib.byteCells (acc ++ txtL d)) wr) ∧ Hid (Below w0.heap.size w wr))
  case atStart => exact ⟨0, [], ns, HN.out.symm, rfl, by omega, rfl, hide rfl, hide (by rw [show txtL [] = [] from rfl, List.append_nil]; exact HBU.out), hide (Below.refl _ _)⟩
  case round =>
    obtain ⟨j, d, rest, rfl, hdj, hjk, rfl, HD, HU, HB⟩ := hrel
    clear HBU
    match rest, hjk, HD with
    | [], hjk, HD =>
      have e1 : d = ns := by
        have := HD.out
        rw [List.append_nil] at this
        exact this.symm
      simp only [List.length_nil, Nat.add_zero] at hjk
      subst hjk
      subst e1
      clear HD hdj
      go_wp2_with fail
      go_end0
      exact ⟨rfl, HU.out, HB.out⟩
    | nd :: rest, hjk, HD =>
      have hjN : j < N := by simp only [List.length_cons] at hjk; omega
      have hge : ns[j]? = some nd := by
        rw [HD.out, List.getElem?_append_right (by omega), hdj, Nat.sub_self]
        rfl
      obtain ⟨g, ap, am, ac, kp, km, kc, f, hp, x0, x1, x2, x3, hkk, -⟩ := HNODE.out j nd hge
      subst hp
      have hbr := HBW.out.trans HB.out
      have x0 := cell_keep x0 hbr
      have x1 := cell_keep x1 hbr
      have x2 := cell_keep x2 hbr
      have x3 := cell_keep x3 hbr
      have hc : cntL ns = cntL d + (cntN nd + cntL rest) := by
        rw [HD.out, cntL_app]
        rfl
      have hct : (txtL ns).length = (txtL d).length + (nd.text.length + (txtL nd.kids).length + (txtL rest).length) := by
        rw [HD.out, txtL_app, List.length_append, txtL, List.length_append, txtN_kids, List.length_append]
      have hkn := cntN_kids nd
      have HCK := hide (fun wx ac2 (hx : Below w0.heap.size w0 wx) (hu : Lib.IsBuilderF 45 5 w0.heap.size w0.heap.size (Lib.byteCells ac2) wx) (hl : ac2.length + (txtL nd.kids).length ≤ 1000000000) => HIH.out (cntL nd.kids) (by omega) wx (.slice kp km kc) nd.kids f ac2 (Nat.le_refl _) (by omega) hkk hx hu hl)
      obtain ⟨XN, hXN⟩ : ∃ X : ByteArray, X = ⟨nd.name.toArray⟩ := ⟨_, rfl⟩
      obtain ⟨XT, hXT⟩ : ∃ X : ByteArray, X = ⟨nd.text.toArray⟩ := ⟨_, rfl⟩
      rw [← hXN] at x0
      rw [← hXT] at x2
      have hXs : XT.size = nd.text.length := by rw [hXT]; rfl
      have hXc : Lib.strCells XT = Lib.byteCells nd.text := by rw [hXT]; rfl
      obtain ⟨w2, hw2⟩ : ∃ w2, w2 = wr.alloc (.cells #[.string XN, .slice ap am ac, .string XT, .slice kp km kc] 40) := ⟨_, rfl⟩
      have hwsz : w0.heap.size ≤ wr.heap.size := hbr.size
      have hb2 : Below w0.heap.size w0 w2 := by rw [hw2]; exact hbr.alloc hwsz _
      have hbw2 : Below w0.heap.size w w2 := by rw [hw2]; exact HB.out.alloc hwsz _
      have hu2 : Lib.IsBuilderF 45 5 w0.heap.size w0.heap.size (Lib.byteCells (acc ++ txtL d)) w2 := by rw [hw2]; exact HU.out.alloc _
      have hnew : w2.heap[wr.heap.size]? = some (.cells #[.string XN, .slice ap am ac, .string XT, .slice kp km kc] 40 (0, 0)) := by rw [hw2]; exact heap_alloc_new _ _
      have y2 : w2.cell? ⟨wr.heap.size, 2, none⟩ = some (.string XT) := tag_cell hnew 2 _ rfl
      have hltb := builder_lt HU.out
      have hsz2 : w0.heap.size ≤ w2.heap.size := hb2.size
      have HWR := hide (Try.Builder_WriteString_k w0.heap.size w0.heap.size _ XT w2 hu2 (by rw [Lib.byteCells_length, List.length_append]; omega) hsz2)
      have HB2 := hide hb2
      have HBW2 := hide hbw2
      have HD2 : Hid (ns = (d ++ [nd]) ++ rest) := hide (by rw [HD.out]; simp)
      have HTX : Hid (acc ++ txtL (d ++ [nd]) = (acc ++ txtL d ++ nd.text) ++ txtL nd.kids) := hide (by
        rw [txtL_app]
        show acc ++ (txtL d ++ (txtN nd ++ [])) = _
        rw [txtN_kids]
        simp)
      have HL2 : Hid ((acc ++ txtL d ++ nd.text).length + (txtL nd.kids).length ≤ 1000000000) := hide (by rw [List.length_append, List.length_append]; omega)
      have hjk2 : j + (rest.length + 1) = N := hjk
      have hdj2 : (d ++ [nd]).length = j + 1 := by simp [hdj]
      have HNEW := hide hnew
      have hjb : j ≤ 1000000000 := by omega
      clear hge hkk hbr HB HD hb2 hbw2 hXT hXN hjk hu2 hnew hct hc hkn hdj HU hM
      go_upto_region 3 with fail
      rw [← hw2]
      clear hw2 x0 x1 x2 x3
      go_wp2_with fail
      refine HWR.out.mono ?_
      rintro e w3 ⟨rfl, h1, b1, k1⟩
      rw [hXc, ← Lib.byteCells_append] at h1
      have y3 : w3.cell? ⟨wr.heap.size, 3, none⟩ = some (.slice kp km kc) := tag_cell (k1 _ _ HNEW.out (by intro e; injection e with e; omega) (by intro c fz e; cases e)) 3 _ rfl
      have HC3 := hide (HCK.out w3 _ (HB2.out.trans b1) (Or.inr h1) HL2.out)
      have HB3 := hide (HBW2.out.trans b1)
      clear h1 b1 k1 HWR HCK HB2 HBW2 HNEW y2
      go_wp2_with fail
      refine HC3.out.mono ?_
      rintro e w4 ⟨rfl, m1, m2⟩
      have HU4 : Hid (Lib.IsBuilderF 45 5 w0.heap.size w0.heap.size (Lib.byteCells (acc ++ txtL (d ++ [nd]))) w4) := hide (by rw [HTX.out]; exact m1)
      have HB4 := hide (HB3.out.trans m2)
      clear m1 m2 HC3 HB3 HTX
      go_wp2_with fail
      go_roundg rest.length
      case measure => simp only [List.length_cons]; omega
      case rel => exact ⟨j + 1, d ++ [nd], rest, rfl, hdj2, by omega, by first | rfl | simp, HD2, HU4, HB4⟩

set_option maxRecDepth 100000 in
set_option maxHeartbeats 8000000 in
theorem text_st (w : World) (base : Nat) (v : Value) (ns : List Nd) (fp : List Nat) (hk : KAt w base v ns fp) (hc : cntL ns ≤ 1000000000) (ht : (txtL ns).length ≤ 1000000000) :
    Calls Try.prog 20 #[v] w fun e w' => e = .returned (.string ⟨(txtL ns).toArray⟩) ∧ Below w.heap.size w w' := by
  have hb1 : Below w.heap.size w (w.alloc (.cells #[.pointer none, .slice none 0 0] 45)) := (Below.refl _ _).alloc (Nat.le_refl _) _
  have hu1 := Lib.IsBuilderF.of (Lib.fresh_isBuilder 45 5 w)
  have HW := hide (writeText_st w base (cntL ns) _ v ns fp [] (Nat.le_refl _) hc hk hb1 hu1 (by simpa using ht))
  have HB1 := hide hb1
  clear hk hb1 hu1
  go_enter Try.func20, Try.ntmps20
  go_wp2_with fail
  refine HW.out.mono ?_
  rintro e w2 ⟨rfl, m1, m2⟩
  have HS := hide (Try.Builder_String_any_k w.heap.size w.heap.size _ w2 m1 (HB1.out.trans m2).size)
  have HB2 := hide (HB1.out.trans m2)
  clear m1 m2 HW HB1
  go_wp2_with fail
  refine HS.out.mono ?_
  rintro e w3 ⟨rfl, _, m2, _⟩
  have HB3 := hide (HB2.out.trans m2)
  clear m2 HS HB2
  go_wp2_with fail
  go_ret
  exact ⟨rfl, HB3.out⟩
end Go.Proofs.Ytkdppcpkigpmdaa
