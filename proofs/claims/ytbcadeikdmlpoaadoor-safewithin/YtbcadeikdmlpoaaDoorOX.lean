/-
  A policy, and a pair of texts, among the arguments, read.
-/
import Derived.Test.YtbcadeikdmlpoaaDoorPC
import Derived.SliceStrings
import Derived.OpenShut
import Derived.ShutString
import Derived.ProofKit
import Derived.ChangeOld
import Derived.Test.YtbcadeikdmlpoaaDoorN0
import Derived.SizedLaws
import Derived.Test.YtbcadeikdmlpoaaDoorRows
import Derived.LaidMore
import Derived.Lay
import Derived.Stop.Joined
namespace Go.Proofs.YtbcadeikdmlpoaaDoor
open Go.ChangeShapes Go.WideShapes Go.ChangeAt Go.RowKit
open Utf1 Pol8

theorem cons_of {α : Type} {l : List α} {n : Nat} (h : l.length = n + 1) : ∃ a r, l = a :: r ∧ r.length = n := by
  cases l with
  | nil => simp at h
  | cons a r => exact ⟨a, r, rfl, by simpa using h⟩
theorem list9 {α : Type} {l : List α} (h : l.length = 9) : ∃ a0 a1 a2 a3 a4 a5 a6 a7 a8, l = [a0, a1, a2, a3, a4, a5, a6, a7, a8] := by
  obtain ⟨a0, r0, rfl, h0⟩ := cons_of h
  obtain ⟨a1, r1, rfl, h1⟩ := cons_of h0
  obtain ⟨a2, r2, rfl, h2⟩ := cons_of h1
  obtain ⟨a3, r3, rfl, h3⟩ := cons_of h2
  obtain ⟨a4, r4, rfl, h4⟩ := cons_of h3
  obtain ⟨a5, r5, rfl, h5⟩ := cons_of h4
  obtain ⟨a6, r6, rfl, h6⟩ := cons_of h5
  obtain ⟨a7, r7, rfl, h7⟩ := cons_of h6
  obtain ⟨a8, r8, rfl, h8⟩ := cons_of h7
  have := List.eq_nil_of_length_eq_zero h8
  subst this
  exact ⟨a0, a1, a2, a3, a4, a5, a6, a7, a8, rfl⟩
theorem cellsStr : Tryd.prog.cellsOf 9 = 1 := by kernel_rfl
theorem cellsPol : Tryd.prog.cellsOf 24 = 9 := by kernel_rfl
section
variable {H : Type} {enc : TypeId × Value → H} {W : World}
theorem strs_cells {n : Nat} {c : Value} {x : DataW H × List MemPlace} (h : DataW.trod enc Tryd.prog W 0 (fun _ => true) true n 22 [c] = some x) : ∃ ss, StrArg W c ss := by
  rcases open_strings Tryd.underlying22 Tryd.underlying9 cellsStr h with ⟨hcs, _⟩ | ⟨x, len, cap, ss, hcs, _, hl, hm, hz, _, hcell, hsz⟩
  · simp at hcs
    subst hcs
    exact ⟨[], none, 0, rfl, fun _ => rfl, fun i s h => by simp at h⟩
  · simp at hcs
    subst hcs
    have hz : ss.length = cap := by simpa using hz
    refine ⟨ss.take len, some x, cap, ?_, fun h => (by cases h), ?_⟩
    · rw [List.length_take, Nat.min_eq_left (by omega)]
    · intro i s hi
      have hil : i < ss.length := by
        have := (List.getElem?_eq_some_iff.1 hi).1
        rw [List.length_take] at this
        omega
      have hilen : i < len := by
        have := (List.getElem?_eq_some_iff.1 hi).1
        rw [List.length_take] at this
        omega
      rw [List.getElem?_take, if_pos hilen] at hi
      have hc := hcell i hil
      have hg : ss.getD i ByteArray.empty = s := by rw [List.getD_eq_getElem?_getD, hi]; rfl
      rw [hg] at hc
      obtain ⟨b, off, spot⟩ := x
      have hspot : spot = none := by simpa [Addr.add] using World.cell?_spot (hcell 0 (by omega))
      subst hspot
      exact ⟨b, off, rfl, by rw [← add_plain]; exact hc⟩
set_option maxRecDepth 10000 in
theorem pol_cells {n : Nat} {cs : List Value} {x : DataW H × List MemPlace} (hg : Glob W) (h : DataW.trod enc Tryd.prog W 0 (fun _ => true) true n 24 cs = some x) :
    ∃ (p : Pol) (v1 v2 v3 v4 v5 : Value) (l1 l2 l3 l4 l5 : List ByteArray), cs = [.int .i64 p.ep, v1, v2, v3, v4, v5, .int .i64 p.dp, .int .i64 p.nd, .int .i64 p.bt] ∧ PolV W v1 v2 v3 v4 v5 p l1 l2 l3 l4 l5 := by
  obtain ⟨xs, m, _, rfl, hl, hlen, hf⟩ := DataW.trod_struct Tryd.underlying24 h
  rw [cellsPol] at hl
  obtain ⟨c0, c1, c2, c3, c4, c5, c6, c7, c8, rfl⟩ := list9 hl
  obtain ⟨y0, y1, y2, y3, y4, y5, y6, y7, y8, rfl⟩ := list9 (show xs.length = 9 from hlen)
  have h0 := hf 0 _ rfl
  have h1 := hf 1 _ rfl
  have h2 := hf 2 _ rfl
  have h3 := hf 3 _ rfl
  have h4 := hf 4 _ rfl
  have h5 := hf 5 _ rfl
  have h6 := hf 6 _ rfl
  have h7 := hf 7 _ rfl
  have h8 := hf 8 _ rfl
  simp only [List.getElem?_cons_zero, List.getElem?_cons_succ] at h0 h1 h2 h3 h4 h5 h6 h7 h8
  obtain ⟨k0, e0, rfl, -⟩ := DataW.trod_int Tryd.underlying3 h0
  obtain ⟨k6, e6, rfl, -⟩ := DataW.trod_int Tryd.underlying3 h6
  obtain ⟨k7, e7, rfl, -⟩ := DataW.trod_int Tryd.underlying3 h7
  obtain ⟨k8, e8, rfl, -⟩ := DataW.trod_int Tryd.underlying3 h8
  obtain ⟨l1, s1⟩ := strs_cells h1
  obtain ⟨l2, s2⟩ := strs_cells h2
  obtain ⟨l3, s3⟩ := strs_cells h3
  obtain ⟨l4, s4⟩ := strs_cells h4
  obtain ⟨l5, s5⟩ := strs_cells h5
  cases e0
  cases e6
  cases e7
  cases e8
  exact ⟨⟨k0, l1.map bl, l2.map bl, l3.map bl, l4.map bl, l5.map bl, k6, k7, k8⟩, c1, c2, c3, c4, c5, l1, l2, l3, l4, l5, rfl, s1, s2, s3, s4, s5, rfl, rfl, rfl, rfl, rfl, hg⟩
set_option maxRecDepth 10000 in
theorem open_pol {r : Reach} {b0 : Nat} {v : Value} {d : DataW H} {ps : List MemPlace} (hg : Glob W) (hval : Value.okWide Tryd.prog W r b0 24 v) (hd : DataW.Trod enc Tryd.prog W 0 (fun _ => true) true 24 v d ps) :
    ∃ (p : Pol) (v1 v2 v3 v4 v5 : Value) (l1 l2 l3 l4 l5 : List ByteArray), v = pval p v1 v2 v3 v4 v5 ∧ PolV W v1 v2 v3 v4 v5 p l1 l2 l3 l4 l5 := by
  simp only [Value.okWide, Tryd.underlying24] at hval
  obtain ⟨cs, rfl, -⟩ := hval
  obtain ⟨fuel, hf⟩ := hd
  obtain ⟨p, v1, v2, v3, v4, v5, l1, l2, l3, l4, l5, e, hp⟩ := pol_cells hg (show DataW.trod enc Tryd.prog W 0 (fun _ => true) true fuel 24 cs.toList = _ from hf)
  refine ⟨p, v1, v2, v3, v4, v5, l1, l2, l3, l4, l5, ?_, hp⟩
  obtain ⟨l⟩ := cs
  have e : l = _ := e
  subst e
  rfl
end
end Go.Proofs.YtbcadeikdmlpoaaDoor

namespace Go.Proofs.YtbcadeikdmlpoaaDoor
open Go.ChangeShapes Go.WideShapes Go.ChangeAt Go.RowKit
open Utf1 Pol8

theorem cellsAtt : Tryd.prog.cellsOf 26 = 2 := by kernel_rfl
section
variable {H : Type} {enc : TypeId × Value → H} {W : World}
set_option maxRecDepth 10000 in
theorem open_att {r : Reach} {b0 : Nat} {v : Value} {d : DataW H} {ps : List MemPlace} (hval : Value.okWide Tryd.prog W r b0 26 v) (hd : DataW.Trod enc Tryd.prog W 0 (fun _ => true) true 26 v d ps) :
    ∃ n x : ByteArray, v = .agg #[.string n, .string x] := by
  simp only [Value.okWide, Tryd.underlying26] at hval
  obtain ⟨cs, rfl, -⟩ := hval
  obtain ⟨fuel, hf⟩ := hd
  have hf : DataW.trod enc Tryd.prog W 0 (fun _ => true) true fuel 26 cs.toList = _ := hf
  obtain ⟨xs, m, _, -, hl, hlen, hfs⟩ := DataW.trod_struct Tryd.underlying26 hf
  rw [cellsAtt] at hl
  obtain ⟨l⟩ := cs
  obtain ⟨c0, r0, e0, hl0⟩ := cons_of hl
  obtain ⟨c1, r1, rfl, hl1⟩ := cons_of hl0
  obtain rfl := List.eq_nil_of_length_eq_zero hl1
  have e0 : l = [c0, c1] := e0
  subst e0
  obtain ⟨y0, q0, rfl, hq0⟩ := cons_of (show xs.length = 1 + 1 from hlen)
  obtain ⟨y1, q1, rfl, hq1⟩ := cons_of hq0
  obtain rfl := List.eq_nil_of_length_eq_zero hq1
  have h0 := hfs 0 _ rfl
  have h1 := hfs 1 _ rfl
  simp only [List.getElem?_cons_zero, List.getElem?_cons_succ] at h0 h1
  obtain ⟨n, e2, -, -⟩ := DataW.trod_string Tryd.underlying9 h0
  obtain ⟨x, e3, -, -⟩ := DataW.trod_string Tryd.underlying9 h1
  cases e2
  cases e3
  exact ⟨n, x, rfl⟩
theorem cap_nods {a : Option Addr} {len cap : Nat} {d : DataW H} {p : List MemPlace} (h : DataW.Trod enc Tryd.prog W 0 (fun _ => true) true 31 (.slice a len cap) d p) : len ≤ cap := by
  obtain ⟨fuel, hf⟩ := h
  rcases DataW.trod_slice Tryd.underlying31 hf with ⟨hc, _⟩ | ⟨a', len', cap', _, _, _, _, hc, _, _, hlc, _⟩
  · simp [Value.cells] at hc
    omega
  · simp [Value.cells] at hc
    omega
end
end Go.Proofs.YtbcadeikdmlpoaaDoor

namespace Go.Proofs.YtbcadeikdmlpoaaDoor.Dm
open Go.ChangeShapes Go.WideShapes Go.RowKit
open Utf1

theorem list_choice {α : Type} {R : Nat → α → Prop} : ∀ n : Nat, (∀ i, i < n → ∃ x, R i x) → ∃ l : List α, l.length = n ∧ ∀ i x, l[i]? = some x → R i x
  | 0, _ => ⟨[], rfl, fun i x h => by simp at h⟩
  | n + 1, h => by
    obtain ⟨l, hl, hr⟩ := list_choice n (fun i hi => h i (by omega))
    obtain ⟨x, hx⟩ := h n (by omega)
    refine ⟨l ++ [x], by simp [hl], ?_⟩
    intro i y hy
    by_cases hi : i < l.length
    · rw [List.getElem?_append_left hi] at hy
      exact hr i y hy
    · have hlen := (List.getElem?_eq_some_iff.1 hy).1
      rw [List.length_append, List.length_singleton] at hlen
      have e : i = l.length := by omega
      subst e
      rw [List.getElem?_append_right (Nat.le_refl _), Nat.sub_self] at hy
      have : x = y := by simpa using hy
      rw [hl, ← this]
      exact hx

section
variable {H : Type} {P : Program}
theorem weights_all {e : TypeId} {n : Nat} {d : DataW H} : ∀ {l : List (DataW H)}, d ∈ l → n ∈ d.weights P e → n ∈ DataW.weightsAll P e l
  | [], h, _ => by cases h
  | x :: r, h, hn => by
    simp only [DataW.weightsAll, List.mem_append]
    rcases List.mem_cons.1 h with rfl | h
    · exact .inl hn
    · exact .inr (weights_all h hn)
theorem weights_slice {t e : TypeId} (hu : P.underlying t = some (.slice e)) {elems spare : List (DataW H)} {d : DataW H} {n : Nat} (h : d ∈ elems) (hn : n ∈ d.weights P e) : n ∈ (DataW.slice elems spare).weights P t := by
  simp only [DataW.weights, hu, List.mem_cons, List.mem_append]
  exact .inr (.inl (weights_all h hn))
theorem weights_agg {t t' : TypeId} {fs : Array Field} (hu : P.underlying t = some (.struct fs)) {parts : List (DataW H)} {d : DataW H} {n j : Nat} (hf : (fs.toList.map (·.type))[j]? = some t') (h : parts[j]? = some d) (hn : n ∈ d.weights P t') : n ∈ (DataW.agg parts).weights P t := by
  simp only [DataW.weights, hu]
  exact DataW.weights_mem_each hf h n hn
end

theorem cells1 : Tryd.prog.cellsOf 9 = 1 := by kernel_rfl
theorem cellsAt : Tryd.prog.cellsOf 26 = 2 := by kernel_rfl
theorem cellsAts : Tryd.prog.cellsOf 34 = 1 := by kernel_rfl
theorem cellsNd : Tryd.prog.cellsOf 36 = 4 := by kernel_rfl

section
variable {H : Type} {enc : TypeId × Value → H} {W : World} {sp : Nat → Bool}

set_option maxRecDepth 100000 in
theorem attr_elem {n : Nat} {cs : List Value} {x : DataW H × List MemPlace} (h : DataW.trod enc Tryd.prog W 0 sp true n 26 cs = some x) : ∃ a b : ByteArray, cs = [.string a, .string b] ∧ x.1 = .agg [.lit (.string a.data.toList), .lit (.string b.data.toList)] := by
  obtain ⟨y0, y1, m, rfl, hl, h0, h1⟩ := trod_struct2 Tryd.underlying26 h
  rw [cellsAt] at hl
  match cs, hl with
  | [c0, c1], _ =>
    simp only [cells1, List.drop_zero, List.take_succ_cons, List.take_zero, List.drop_succ_cons] at h0 h1
    obtain ⟨a, e0, rfl, -⟩ := DataW.trod_string Tryd.underlying9 h0
    obtain ⟨b, e1, rfl, -⟩ := DataW.trod_string Tryd.underlying9 h1
    cases e0
    cases e1
    exact ⟨a, b, rfl, rfl⟩

theorem spot_first {a : Addr} {b n : Nat} {cs : List Value} (h : W.cells? b (a.add 0) n = some cs) (hn : 0 < n) : a.spot = none := by
  obtain ⟨_, hl, hc⟩ := World.cells?_some h
  have h0 := hc 0 hn
  rw [List.getElem?_eq_getElem (by omega)] at h0
  simpa [Addr.add] using World.cell?_spot h0
theorem at_cell {a : Addr} {i k : Nat} {v : Value} (hs : a.spot = none) (h : W.cell? ((a.add i).add k) = some v) : W.cell? ⟨a.block, a.off + i + k, none⟩ = some v := by
  obtain ⟨b, off, spot⟩ := a
  simp only [] at hs
  subst hs
  rw [add_plain, add_plain] at h
  exact h

set_option maxRecDepth 100000 in
theorem attr_slice {n : Nat} {sl : Value} {y : DataW H × List MemPlace} (h : DataW.trod enc Tryd.prog W 0 sp true n 34 [sl] = some y) (hw : ∀ k ∈ y.1.weights Tryd.prog 34, k ≤ reachBytes) : ∃ p m c at', sl = .slice p m c ∧ ARow W p m at' := by
  rcases DataW.trod_slice Tryd.underlying34 h with ⟨hc, rfl⟩ | ⟨a, len, cap, elems, rest, n', _, hc, rfl, hb, hl, hm, hlen, hel, hsp, hns⟩
  · cases hc
    exact ⟨none, 0, 0, [], rfl, arow_nil W⟩
  · cases hc
    rw [cellsAt] at hel
    have key : ∀ i, i < len → ∃ kv : List UInt8 × List UInt8, ∃ b off, some a = some ⟨b, off, none⟩ ∧ W.cell? ⟨b, off + i * 2, none⟩ = some (.string ⟨kv.1.toArray⟩) ∧ W.cell? ⟨b, off + i * 2 + 1, none⟩ = some (.string ⟨kv.2.toArray⟩) ∧ kv.1.length ≤ 281474976710656 ∧ kv.2.length ≤ 281474976710656 := by
      intro i hi
      have h1 := hel i hi
      have hil : i < elems.length := by omega
      rw [List.getElem?_eq_getElem hil, Option.bind_eq_some_iff] at h1
      obtain ⟨cs, hcs, ht⟩ := h1
      obtain ⟨s, t, rfl, ex⟩ := attr_elem ht
      obtain ⟨_, _, hcell⟩ := World.cells?_some hcs
      have hsp1 : a.spot = none := by
        have h0 := hel 0 (by omega)
        rw [List.getElem?_eq_getElem (by omega), Option.bind_eq_some_iff, Nat.zero_mul] at h0
        obtain ⟨cs0, hcs0, _⟩ := h0
        exact spot_first hcs0 (by decide)
      have c0 := at_cell hsp1 (hcell 0 (by decide))
      have c1 := at_cell hsp1 (hcell 1 (by decide))
      have hmem : elems[i].1 ∈ elems.map (·.1) := List.mem_map.2 ⟨_, List.getElem_mem hil, rfl⟩
      have hws : ∀ k ∈ elems[i].1.weights Tryd.prog 26, k ≤ reachBytes := fun k hk => hw k (weights_slice Tryd.underlying34 hmem hk)
      rw [ex] at hws
      have w0 := hws s.data.toList.length (weights_agg Tryd.underlying26 (j := 0) rfl rfl (by simp [DataW.weights]))
      have w1 := hws t.data.toList.length (weights_agg Tryd.underlying26 (j := 1) rfl rfl (by simp [DataW.weights]))
      have hr := reachBytes_lt
      refine ⟨(s.data.toList, t.data.toList), a.block, a.off, ?_, ?_, ?_, ?_, ?_⟩
      · obtain ⟨b, off, spot⟩ := a
        simp only [] at hsp1
        rw [hsp1]
      · rw [Nat.add_zero] at c0
        rw [c0]
      · rw [c1]
      · show s.data.toList.length ≤ _
        omega
      · show t.data.toList.length ≤ _
        omega
    obtain ⟨at', hal, har⟩ := list_choice len key
    exact ⟨some a, len, cap, at', rfl, ⟨hal.symm, by unfold maxLen at hm; omega⟩, har⟩

set_option maxRecDepth 100000 in
theorem nod_elem {n : Nat} {cs : List Value} {x : DataW H × List MemPlace} (h : DataW.trod enc Tryd.prog W 0 sp true n 36 cs = some x) : ∃ (name : ByteArray) (sl : Value) (text : ByteArray) (kl : Value) (m : Nat) (y z : DataW H × List MemPlace), cs = [.string name, sl, .string text, kl] ∧ n = m + 1 ∧ DataW.trod enc Tryd.prog W 0 sp true m 34 [sl] = some y ∧ DataW.trod enc Tryd.prog W 0 sp true m 31 [kl] = some z ∧ x.1 = .agg [.lit (.string name.data.toList), y.1, .lit (.string text.data.toList), z.1] := by
  obtain ⟨xs, m, hn, rfl, hl, hlen, hf⟩ := DataW.trod_struct Tryd.underlying36 h
  rw [cellsNd] at hl
  match cs, hl, xs, hlen with
  | [c0, c1, c2, c3], _, [y0, y1, y2, y3], _ =>
    have h0 := hf 0 _ rfl
    have h1 := hf 1 _ rfl
    have h2 := hf 2 _ rfl
    have h3 := hf 3 _ rfl
    simp only [List.getElem?_cons_zero, List.getElem?_cons_succ] at h0 h1 h2 h3
    obtain ⟨nm, e0, rfl, -⟩ := DataW.trod_string Tryd.underlying9 h0
    obtain ⟨tx, e2, rfl, -⟩ := DataW.trod_string Tryd.underlying9 h2
    cases e0
    cases e2
    exact ⟨nm, c1, tx, c3, m, y1, y3, rfl, hn, h1, h3, rfl⟩

set_option maxRecDepth 100000 in
theorem nod_slice : ∀ (n : Nat) {sl : Value} {y : DataW H × List MemPlace}, DataW.trod enc Tryd.prog W 0 sp true n 31 [sl] = some y → (∀ k ∈ y.1.weights Tryd.prog 31, k ≤ reachBytes) → ∃ p m c ns, sl = .slice p m c ∧ NAtD W (n + 1) sl ns := by
  intro n
  induction n using Nat.strongRecOn with
  | _ n ih =>
  intro sl y h hw
  rcases DataW.trod_slice Tryd.underlying31 h with ⟨hc, rfl⟩ | ⟨a, len, cap, elems, rest, n', hn', hc, rfl, hb, hl, hm, hlen, hel, hsp, hns⟩
  · cases hc
    exact ⟨none, 0, 0, [], rfl, ⟨none, 0, rfl, by decide, fun i nd h => by simp at h⟩⟩
  · cases hc
    rw [cellsNd] at hel
    have key : ∀ i, i < len → ∃ nd : Nd, ∃ g off ap am ac kp km kc, some a = some ⟨g, off, none⟩ ∧ W.cell? ⟨g, off + i * 4, none⟩ = some (.string ⟨nd.name.toArray⟩) ∧ W.cell? ⟨g, off + i * 4 + 1, none⟩ = some (.slice ap am ac) ∧ W.cell? ⟨g, off + i * 4 + 2, none⟩ = some (.string ⟨nd.text.toArray⟩) ∧ W.cell? ⟨g, off + i * 4 + 3, none⟩ = some (.slice kp km kc) ∧ (nd.name.length ≤ 281474976710656 ∧ nd.text.length ≤ 281474976710656) ∧ ARow W ap am nd.attrs ∧ NAtD W n (.slice kp km kc) nd.kids := by
      intro i hi
      have h1 := hel i hi
      have hil : i < elems.length := by omega
      rw [List.getElem?_eq_getElem hil, Option.bind_eq_some_iff] at h1
      obtain ⟨cs, hcs, ht⟩ := h1
      obtain ⟨nm, sl1, tx, kl1, m, y1, z1, rfl, hmn, hy, hz, ex⟩ := nod_elem ht
      obtain ⟨_, _, hcell⟩ := World.cells?_some hcs
      have hsp1 : a.spot = none := by
        have h0 := hel 0 (by omega)
        rw [List.getElem?_eq_getElem (by omega), Option.bind_eq_some_iff, Nat.zero_mul] at h0
        obtain ⟨cs0, hcs0, _⟩ := h0
        exact spot_first hcs0 (by decide)
      have c0 := at_cell hsp1 (hcell 0 (by decide))
      have c1 := at_cell hsp1 (hcell 1 (by decide))
      have c2 := at_cell hsp1 (hcell 2 (by decide))
      have c3 := at_cell hsp1 (hcell 3 (by decide))
      have hmem : elems[i].1 ∈ elems.map (·.1) := List.mem_map.2 ⟨_, List.getElem_mem hil, rfl⟩
      have hws : ∀ k ∈ elems[i].1.weights Tryd.prog 36, k ≤ reachBytes := fun k hk => hw k (weights_slice Tryd.underlying31 hmem hk)
      rw [ex] at hws
      have w0 := hws nm.data.toList.length (weights_agg Tryd.underlying36 (j := 0) rfl rfl (by simp [DataW.weights]))
      have w2 := hws tx.data.toList.length (weights_agg Tryd.underlying36 (j := 2) rfl rfl (by simp [DataW.weights]))
      obtain ⟨p, m', c, at', rfl, hat⟩ := attr_slice hy (fun k hk => hws k (weights_agg Tryd.underlying36 (j := 1) rfl rfl hk))
      obtain ⟨kp, km, kc, ns, rfl, hns2⟩ := ih m (by omega) hz (fun k hk => hws k (weights_agg Tryd.underlying36 (j := 3) rfl rfl hk))
      have hr := reachBytes_lt
      refine ⟨.mk nm.data.toList at' tx.data.toList ns, a.block, a.off, p, m', c, kp, km, kc, ?_, ?_, ?_, ?_, ?_, ⟨?_, ?_⟩, hat, hns2.more (by omega)⟩
      · obtain ⟨b, off, spot⟩ := a
        simp only [] at hsp1
        rw [hsp1]
      · rw [Nat.add_zero] at c0
        rw [c0]
        rfl
      · rw [c1]
      · rw [c2]
        rfl
      · rw [c3]
      · show nm.data.toList.length ≤ _
        omega
      · show tx.data.toList.length ≤ _
        omega
    obtain ⟨ns, hal, har⟩ := list_choice len key
    refine ⟨some a, len, cap, ns, rfl, ⟨some a, cap, by rw [hal], by rw [hal]; unfold maxLen at hm; omega, har⟩⟩

/-- Nodes that came in. -/
def NArg (w : World) (v : Value) (ns : List Nd) : Prop := NAt w v ns ∧ (v = .slice none 0 0 ∨ ∃ ad m c, v = .slice (some ad) m c)
theorem NArg.below {w w' : World} {v : Value} {ns : List Nd} (h : NArg w v ns) (hb : Below w.heap.size w w') : NArg w' v ns := ⟨h.1.below hb, h.2⟩
set_option maxRecDepth 100000 in
theorem open_nods {a : Option Addr} {len cap : Nat} {d : DataW H} {p : List MemPlace} (h : DataW.Trod enc Tryd.prog W 0 sp true 31 (.slice a len cap) d p) (hw : ∀ k ∈ d.weights Tryd.prog 31, k ≤ reachBytes) : ∃ ns : List Nd, NArg W (.slice a len cap) ns := by
  obtain ⟨fuel, hf⟩ := h
  obtain ⟨_, _, _, ns, _, h⟩ := nod_slice fuel hf hw
  refine ⟨ns, ⟨_, h⟩, ?_⟩
  rcases DataW.trod_slice Tryd.underlying31 hf with ⟨hc, _⟩ | ⟨a', len', cap', _, _, _, _, hc, _⟩
  · simp [Value.cells] at hc
    obtain ⟨rfl, rfl, rfl⟩ := hc
    exact .inl rfl
  · simp [Value.cells] at hc
    obtain ⟨rfl, rfl, rfl⟩ := hc
    exact .inr ⟨_, _, _, rfl⟩
end
end Go.Proofs.YtbcadeikdmlpoaaDoor.Dm

namespace Go.Proofs.YtbcadeikdmlpoaaDoor
open Go.ChangeShapes Go.WideShapes Go.ChangeAt Go.RowKit

theorem row_own : ownKnob Tryd.prog.godebug = none := by kernel_rfl
theorem row_laidOut : laidOutB Tryd.prog = true := by kernel_rfl
def laidAll : List (String × DataW Unit) := [("unicode/utf8.acceptRanges", Rows.laid_unicode_utf8_acceptRanges), ("unicode/utf8.first", Rows.laid_unicode_utf8_first)]
theorem all_met (os : Os) (args : Array Value) : laidMetH Tryd.prog laidAll ((World.laidAll Tryd.prog os laidAll).forCall (fun _ _ => 0) ⟨#[], args, []⟩).memory := by
  rw [MakeChecks.laidMetH_plain _ _ _ (by kernel_rfl)]
  exact laidMet_laidAll _ (by kernel_rfl) (by kernel_rfl)
theorem all_shaped (os : Os) (args : Array Value) : ((World.laidAll Tryd.prog os laidAll).forCall (fun _ _ => 0) ⟨#[], args, []⟩).Shaped Tryd.prog := World.shaped_of_ZipB (by kernel_rfl) (by kernel_rfl)
end Go.Proofs.YtbcadeikdmlpoaaDoor
