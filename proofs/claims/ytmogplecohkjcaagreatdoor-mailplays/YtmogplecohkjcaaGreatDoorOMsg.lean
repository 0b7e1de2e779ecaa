/-
  A message among the arguments, read.
-/
import Derived.Test.YtmogplecohkjcaaGreatDoorOPol
import Derived.Test.YtmogplecohkjcaaGreatDoorMEV
import Derived.SliceStrings
import Derived.OpenShut
import Derived.SizedLaws
namespace Go.Proofs.YtmogplecohkjcaaGreatDoor
open Go.ChangeShapes Go.WideShapes Go.ChangeAt Go.RowKit
open Utf1
open Pol8 hiding text right Right
open Msg15

/-- A message as an argument. -/
structure MA (w : World) (m : Ms) (vi vp v1 v2 v3 v4 v5 : Value) (ids : List ByteArray) (ts : List (ByteArray × ByteArray)) (l1 l2 l3 l4 l5 : List ByteArray) : Prop where
  hi : StrArg w vi ids
  hp : PostRow w vp ts
  hv : PolV w v1 v2 v3 v4 v5 m.pol l1 l2 l3 l4 l5
  ei : m.ids = ids.map bl
  ep : m.posts = ts.map (fun x => (bl x.1, bl x.2))
theorem mlist_choice {α : Type} {R : Nat → α → Prop} : ∀ n : Nat, (∀ i, i < n → ∃ x, R i x) → ∃ l : List α, l.length = n ∧ ∀ i x, l[i]? = some x → R i x
  | 0, _ => ⟨[], rfl, fun i x h => by simp at h⟩
  | n + 1, h => by
    obtain ⟨l, hl, hr⟩ := mlist_choice n (fun i hi => h i (by omega))
    obtain ⟨x, hx⟩ := h n (by omega)
    refine ⟨l ++ [x], by simp [hl], ?_⟩
    intro i y hy
    by_cases hi : i < l.length
    · rw [List.getElem?_append_left hi] at hy
      exact hr i y hy
    · have hlen := (List.getElem?_eq_some_iff.1 hy).1
      rw [List.length_append, List.length_singleton] at hlen
      have e : i = l.length := by omega
      subst e
      rw [List.getElem?_append_right (Nat.le_refl _), Nat.sub_self] at hy
      have : x = y := by simpa using hy
      rw [hl, ← this]
      exact hx
theorem mcellsPost : Tryz.prog.cellsOf 57 = 2 := by kernel_rfl
theorem mcellsMsg : Tryz.prog.cellsOf 35 = 15 := by kernel_rfl
section
variable {H : Type} {enc : TypeId × Value → H} {W : World}
theorem mspot_first {a : Addr} {b n : Nat} {cs : List Value} (h : W.cells? b (a.add 0) n = some cs) (hn : 0 < n) : a.spot = none := by
  obtain ⟨_, hl, hc⟩ := World.cells?_some h
  have h0 := hc 0 hn
  rw [List.getElem?_eq_getElem (by omega)] at h0
  simpa [Addr.add] using World.cell?_spot h0
theorem mat_cell {a : Addr} {i k : Nat} {v : Value} (hs : a.spot = none) (h : W.cell? ((a.add i).add k) = some v) : W.cell? ⟨a.block, a.off + i + k, none⟩ = some v := by
  obtain ⟨b, off, spot⟩ := a
  simp only [] at hs
  subst hs
  rw [add_plain, add_plain] at h
  exact h
set_option maxRecDepth 10000 in
theorem two_cells {n : Nat} {cs : List Value} {x : DataW H × List MemPlace} (h : DataW.trod enc Tryz.prog W 0 (fun _ => true) true n 57 cs = some x) : ∃ a b : ByteArray, cs = [.string a, .string b] := by
  obtain ⟨xs, m, _, rfl, hl, hlen, hf⟩ := DataW.trod_struct Tryz.underlying57 h
  rw [mcellsPost] at hl
  obtain ⟨c0, r0, rfl, h0⟩ := cons_of hl
  obtain ⟨c1, r1, rfl, h1⟩ := cons_of h0
  have := List.eq_nil_of_length_eq_zero h1
  subst this
  obtain ⟨y0, z0, rfl, k0⟩ := cons_of (show xs.length = 1 + 1 from hlen)
  obtain ⟨y1, z1, rfl, k1⟩ := cons_of k0
  have := List.eq_nil_of_length_eq_zero k1
  subst this
  have f0 := hf 0 _ rfl
  have f1 := hf 1 _ rfl
  simp only [List.getElem?_cons_zero, List.getElem?_cons_succ] at f0 f1
  obtain ⟨a, e0, -, -⟩ := DataW.trod_string Tryz.underlying9 f0
  obtain ⟨b, e1, -, -⟩ := DataW.trod_string Tryz.underlying9 f1
  exact ⟨a, b, by cases e0; cases e1; rfl⟩
set_option maxRecDepth 10000 in
theorem posts_cells {n : Nat} {c : Value} {x : DataW H × List MemPlace} (h : DataW.trod enc Tryz.prog W 0 (fun _ => true) true n 31 [c] = some x) : ∃ ts, PostRow W c ts := by
  rcases DataW.trod_slice Tryz.underlying31 h with ⟨hc, e⟩ | ⟨a', len, cap, elems, rest, n', _, hc, e, hb, hl, hm, hlen, hel, hsp, hns⟩
  · simp at hc
    subst hc
    exact ⟨[], none, 0, rfl, Nat.le_refl _, fun _ => rfl, fun i a b h => by simp at h⟩
  · simp at hc
    subst hc
    rw [mcellsPost] at hel
    have key : ∀ i, i < len → ∃ t : ByteArray × ByteArray, ∃ b off, some a' = some ⟨b, off, none⟩ ∧ W.cell? ⟨b, off + i * 2, none⟩ = some (.string t.1) ∧ W.cell? ⟨b, off + i * 2 + 1, none⟩ = some (.string t.2) := by
      intro i hi
      have h1 := hel i hi
      have hil : i < elems.length := by omega
      rw [List.getElem?_eq_getElem hil, Option.bind_eq_some_iff] at h1
      obtain ⟨cs, hcs, ht⟩ := h1
      obtain ⟨p, q, rfl⟩ := two_cells ht
      obtain ⟨_, _, hcell⟩ := World.cells?_some hcs
      have hsp1 : a'.spot = none := by
        have h0 := hel 0 (by omega)
        rw [List.getElem?_eq_getElem (by omega), Option.bind_eq_some_iff, Nat.zero_mul] at h0
        obtain ⟨cs0, hcs0, _⟩ := h0
        exact mspot_first hcs0 (by decide)
      refine ⟨(p, q), a'.block, a'.off, ?_, ?_, ?_⟩
      · obtain ⟨b, off, spot⟩ := a'
        simp only [] at hsp1
        rw [hsp1]
      · exact mat_cell (k := 0) hsp1 (hcell 0 (by decide))
      · exact mat_cell (k := 1) hsp1 (hcell 1 (by decide))
    obtain ⟨l, hll, hlr⟩ := mlist_choice len key
    exact ⟨l, some a', cap, by rw [hll], by omega, (fun e => by cases e), fun i a b ht => hlr i (a, b) ht⟩
set_option maxRecDepth 10000 in
theorem msg_cells {n : Nat} {cs : List Value} {x : DataW H × List MemPlace} (hg : Glob W) (h : DataW.trod enc Tryz.prog W 0 (fun _ => true) true n 35 cs = some x) :
    ∃ (m : Ms) (vi vp v1 v2 v3 v4 v5 : Value) (ids : List ByteArray) (ts : List (ByteArray × ByteArray)) (l1 l2 l3 l4 l5 : List ByteArray), cs = [.int .i64 m.kind, .int .i64 m.fr, .int .i64 m.to, .int .i64 m.ep, vi, vp, .int .i64 m.pol.ep, v1, v2, v3, v4, v5, .int .i64 m.pol.dp, .int .i64 m.pol.nd, .int .i64 m.pol.bt] ∧ MA W m vi vp v1 v2 v3 v4 v5 ids ts l1 l2 l3 l4 l5 := by
  obtain ⟨xs, m, _, rfl, hl, hlen, hf⟩ := DataW.trod_struct Tryz.underlying35 h
  rw [mcellsMsg] at hl
  obtain ⟨c0, r0, rfl, g0⟩ := cons_of hl
  obtain ⟨c1, r1, rfl, g1⟩ := cons_of g0
  obtain ⟨c2, r2, rfl, g2⟩ := cons_of g1
  obtain ⟨c3, r3, rfl, g3⟩ := cons_of g2
  obtain ⟨c4, r4, rfl, g4⟩ := cons_of g3
  obtain ⟨c5, r5, rfl, g5⟩ := cons_of g4
  obtain ⟨d0, d1, d2, d3, d4, d5, d6, d7, d8, rfl⟩ := list9 g5
  obtain ⟨y0, z0, rfl, k0⟩ := cons_of (show xs.length = 6 + 1 from hlen)
  obtain ⟨y1, z1, rfl, k1⟩ := cons_of k0
  obtain ⟨y2, z2, rfl, k2⟩ := cons_of k1
  obtain ⟨y3, z3, rfl, k3⟩ := cons_of k2
  obtain ⟨y4, z4, rfl, k4⟩ := cons_of k3
  obtain ⟨y5, z5, rfl, k5⟩ := cons_of k4
  obtain ⟨y6, z6, rfl, k6⟩ := cons_of k5
  have := List.eq_nil_of_length_eq_zero k6
  subst this
  have f0 := hf 0 _ rfl
  have f1 := hf 1 _ rfl
  have f2 := hf 2 _ rfl
  have f3 := hf 3 _ rfl
  have f4 := hf 4 _ rfl
  have f5 := hf 5 _ rfl
  have f6 := hf 6 _ rfl
  simp only [List.getElem?_cons_zero, List.getElem?_cons_succ] at f0 f1 f2 f3 f4 f5 f6
  obtain ⟨k, e0, rfl, -⟩ := DataW.trod_int Tryz.underlying3 f0
  obtain ⟨f, e1, rfl, -⟩ := DataW.trod_int Tryz.underlying3 f1
  obtain ⟨t, e2, rfl, -⟩ := DataW.trod_int Tryz.underlying3 f2
  obtain ⟨e, e3, rfl, -⟩ := DataW.trod_int Tryz.underlying3 f3
  obtain ⟨ids, s4⟩ := strs_cells f4
  obtain ⟨ts, s5⟩ := posts_cells f5
  obtain ⟨p, v1, v2, v3, v4, v5, l1, l2, l3, l4, l5, e6, s6⟩ := pol_cells hg f6
  cases e0
  cases e1
  cases e2
  cases e3
  cases e6
  exact ⟨⟨k, f, t, e, ids.map bl, ts.map (fun x => (bl x.1, bl x.2)), p⟩, c4, c5, _, _, _, _, _, ids, ts, l1, l2, l3, l4, l5, rfl, s4, s5, s6, rfl, rfl⟩
set_option maxRecDepth 10000 in
theorem open_msg {r : Reach} {b0 : Nat} {v : Value} {d : DataW H} {ps : List MemPlace} (hg : Glob W) (hval : Value.okWide Tryz.prog W r b0 35 v) (hd : DataW.Trod enc Tryz.prog W 0 (fun _ => true) true 35 v d ps) :
    ∃ (m : Ms) (vi vp v1 v2 v3 v4 v5 : Value) (ids : List ByteArray) (ts : List (ByteArray × ByteArray)) (l1 l2 l3 l4 l5 : List ByteArray), v = mval m.kind m.fr m.to m.ep vi vp m.pol v1 v2 v3 v4 v5 ∧ MA W m vi vp v1 v2 v3 v4 v5 ids ts l1 l2 l3 l4 l5 := by
  simp only [Value.okWide, Tryz.underlying35] at hval
  obtain ⟨cs, rfl, -⟩ := hval
  obtain ⟨fuel, hf⟩ := hd
  obtain ⟨m, vi, vp, v1, v2, v3, v4, v5, ids, ts, l1, l2, l3, l4, l5, e, hp⟩ := msg_cells hg (show DataW.trod enc Tryz.prog W 0 (fun _ => true) true fuel 35 cs.toList = _ from hf)
  refine ⟨m, vi, vp, v1, v2, v3, v4, v5, ids, ts, l1, l2, l3, l4, l5, ?_, hp⟩
  obtain ⟨l⟩ := cs
  have e : l = _ := e
  subst e
  rfl
end
end Go.Proofs.YtmogplecohkjcaaGreatDoor
