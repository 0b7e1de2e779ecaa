/-
  digest.gather, walked: the texts of some lists in a map, those of another one struck out, the map's keys collected and sorted.
-/
import Derived.Test.YtddphbbmccfblaaDG5
import Derived.Test.YtddphbbmccfblaaShelf
import Derived.Maps.OwnSet
import Derived.Maps.RangeWalk
import Derived.Sort.KeysCollected
import Derived.Sort.OwnSorted
import Derived.Sort.Walk0
import Derived.StringKeys
namespace Dg16
open Go
open Pol8
theorem chain_pair : ∀ l : List L, l.Pairwise (fun a b => lt a b = true) → chain l = true
  | [], _ => rfl
  | a :: r, h => by
    rw [List.pairwise_cons] at h
    exact chain_mk r a h.1 (chain_pair r h.2)
end Dg16
namespace Go.Proofs.Ytddphbbmccfblaa
open Go.RowKit Go.Maps Go.Sort
open Utf1
open Pol8 hiding text right Right
open Dg16

theorem lt_le {a b : Pol8.L} (h : (decide (a ≤ b)) = true) (hne : a ≠ b) : lt a b = true := by
  refine lt_tot b a (fun e => hne e.symm) ?_
  have h1 : ¬ b < a := of_decide_eq_true h
  unfold lt
  rw [bytesLess_eq]
  exact decide_eq_false h1
theorem ri_sorted {ss : List Pol8.L} {P : Pol8.L → Prop} (hnd : ss.Nodup) (hm : ∀ x, x ∈ ss ↔ P x) : Ri (ss.mergeSort (fun x y => decide (x ≤ y))) P := by
  have tr : ∀ a b c : Pol8.L, decide (a ≤ b) = true → decide (b ≤ c) = true → decide (a ≤ c) = true := fun a b c h1 h2 => decide_eq_true (List.le_trans (of_decide_eq_true h1) (of_decide_eq_true h2))
  have tt : ∀ a b : Pol8.L, (decide (a ≤ b) || decide (b ≤ a)) = true := fun a b => by
    rcases List.le_total a b with h | h
    · simp [h]
    · simp [h]
  have hp := List.pairwise_mergeSort tr tt ss
  have hnd2 : (ss.mergeSort (fun x y => decide (x ≤ y))).Nodup := (List.mergeSort_perm ss _).nodup_iff.2 hnd
  refine ⟨chain_pair _ ?_, fun x => ((List.mergeSort_perm ss _).mem_iff).trans (hm x)⟩
  have := hp.and hnd2
  exact this.imp (fun h => lt_le h.1 h.2)
theorem law9 : Keyed Try.prog 9 := string_keyed Try.underlying9
theorem infoString : (Try.prog.info? 9).map (fun i => (i.zero, i.size, i.bytes)) = some (some (.string ⟨#[]⟩), 1, 16) := by kernel_rfl
/-- A row of texts that is owned, of the bytes of its texts. -/
theorem strArg_enc {w : World} {B n : Nat} {v : Value} {ss : List (List UInt8)} (h : w.ownsRow B 9 1 v n (ss.map encStr)) (hn : n = ss.length) : StrArg w v (ss.map fun l => (⟨l.toArray⟩ : ByteArray)) := by
  refine own_arg (B := B) ?_
  rw [List.length_map, ← hn]
  have e : strV (ss.map fun l => (⟨l.toArray⟩ : ByteArray)) = ss.map encStr := by
    unfold strV
    rw [List.map_map]
    rfl
  rw [e]
  exact h
theorem bl_enc (ss : List (List UInt8)) : (ss.map fun l => (⟨l.toArray⟩ : ByteArray)).map bl = ss := by
  rw [List.map_map]
  conv => rhs; rw [← List.map_id ss]
  rfl

/-- A map's keys are just these. -/
def KeysAre (D : DataW Unit) (P : Pol8.L → Prop) : Prop := ∀ x, Maps.has D (.string x) = true ↔ P x
theorem KeysAre.put {D : DataW Unit} {P : Pol8.L → Prop} (h : KeysAre D P) (hD : Maps.IsMap D) (x : Pol8.L) (d : DataW Unit) : KeysAre (D.put (.string x) d) (fun y => y = x ∨ P y) := fun y => by
  by_cases hy : y = x
  · subst hy
    rw [has_put_same hD (show WideAt.IsKeyLit (.string y) from trivial)]
    simp
  · rw [has_put_other (fun e => hy (by injection e)), h y]
    simp [hy]
theorem KeysAre.del {D : DataW Unit} {P : Pol8.L → Prop} (h : KeysAre D P) (x : Pol8.L) : KeysAre (D.del (.string x)) (fun y => P y ∧ y ≠ x) := fun y => by
  by_cases hy : y = x
  · subst hy
    rw [has_del_same]
    simp
  · rw [has_del_other (fun e => hy (by injection e)), h y]
    simp [hy]
theorem KeysAre.to {D : DataW Unit} {P P' : Pol8.L → Prop} (h : KeysAre D P) (e : ∀ x, P x ↔ P' x) : KeysAre D P' := fun x => (h x).trans (e x)
theorem keysAre_empty : KeysAre (.map []) (fun _ => False) := fun x => by simp [Maps.has]
theorem few_max {ls : List ByteArray} (h : Few ls) {i : Nat} {x : ByteArray} (hi : ls[i]? = some x) : x.size ≤ maxLen := by
  have := h.2 x (List.mem_of_getElem? hi)
  unfold maxLen
  omega


/-- The lists of a slice of slices of strings. -/
def Lists (w : World) (b : Nat) (LL : List (List ByteArray)) : Prop := ∀ i l, LL[i]? = some l → ∃ v, w.cell? ⟨b, i, none⟩ = some v ∧ StrArg w v l
theorem Lists.below {w w' : World} {b : Nat} {LL : List (List ByteArray)} (h : Lists w b LL) (hb : Below w.heap.size w w') : Lists w' b LL := fun i l hi => by
  obtain ⟨v, h1, h2⟩ := h i l hi
  exact ⟨v, cell_keep h1 hb, h2.below hb⟩
/-- What has been gathered of the first lists. -/
def InL (LL : List (List ByteArray)) (y : Pol8.L) : Prop := ∃ l ∈ LL, y ∈ l.map bl
theorem inL_step {LL : List (List ByteArray)} {i : Nat} {l : List ByteArray} (h : LL[i]? = some l) (y : Pol8.L) : InL (LL.take (i + 1)) y ↔ InL (LL.take i) y ∨ y ∈ l.map bl := by
  unfold InL
  rw [List.take_add_one, h]
  show (∃ x ∈ LL.take i ++ [l], y ∈ x.map bl) ↔ _
  constructor
  · rintro ⟨x, hx, hy⟩
    rcases List.mem_append.1 hx with h1 | h1
    · exact .inl ⟨x, h1, hy⟩
    · exact .inr (by rw [← List.mem_singleton.1 h1]; exact hy)
  · rintro (⟨x, hx, hy⟩ | hy)
    · exact ⟨x, List.mem_append_left _ hx, hy⟩
    · exact ⟨l, List.mem_append_right _ (List.mem_singleton.2 rfl), hy⟩

/-- The map as it is filled. -/
def Met (w wr : World) (n : Nat) (P : Pol8.L → Prop) : Prop := Below w.heap.size w wr ∧ w.heap.size + 1 ≤ wr.heap.size ∧ ∃ D : DataW Unit, wr.ownsMap Try.prog 9 (unitElem (H := Unit)) w.heap.size n D ∧ KeysAre D P
theorem Met.to {w wr : World} {n m : Nat} {P Q : Pol8.L → Prop} (h : Met w wr n P) (hm : n ≤ m) (e : ∀ x, P x ↔ Q x) : Met w wr m Q := by
  obtain ⟨h1, h2, D, h3, h4⟩ := h
  exact ⟨h1, h2, D, h3.mono hm, h4.to e⟩

set_option maxRecDepth 100000 in
set_option maxHeartbeats 8000000 in
theorem gather_any (u : Value) (ds : List ByteArray) (b n : Nat) (LL : List (List ByteArray)) (w : World) (hn : LL.length = n) (hn2 : n ≤ 2) (hu : StrArg w u ds) (hfd : Few ds) (hfl : ∀ l ∈ LL, Few l) (hL : Lists w b LL) :
    Calls Try.prog 22 #[u, .slice (some ⟨b, 0, none⟩) n n] w fun e w' => RowP w' (fun y => InL LL y ∧ y ∉ ds.map bl) e ∧ Below w.heap.size w w' := by
  obtain ⟨i0, hi0, hz0, hz1, hz2⟩ := info_parts infoString
  have HU := hide hu
  have HFD := hide hfd
  have HFL := hide hfl
  have HL := hide hL
  have HN := hide hn
  obtain ⟨q, d, rfl⟩ := strArg_shape hu
  obtain ⟨M, hM⟩ : ∃ M, M = ds.length := ⟨_, rfl⟩
  rw [← hM] at HU ⊢
  have HM := hide hM
  have hM4 : M ≤ 10000 := by rw [hM]; exact hfd.1
  clear hM hu hfd hfl hL hn
  have hmm := @run_makeMap Try.prog
  go_enter Try.func22, Try.ntmps22
  go_wp2_with fail
  clear hmm
  go_loopg [7, 9, 17] n (fun g v7 v9 v17 wr => ∃ (i : Nat), i + g = n ∧ v17 = .int .i64 (i : Int) ∧ Hid (Met w wr (10000 * i) (InL (LL.take i))))
  case atStart => exact ⟨0, by omega, rfl, hide ⟨(Below.refl _ _).alloc (Nat.le_refl _) _, by simp, .map [], World.ownsMap_made _ _ _ _, keysAre_empty.to (fun x => by unfold InL; simp)⟩⟩
  case round =>
    obtain ⟨i, hi, rfl, HR⟩ := hrel
    by_cases hlt : i < n
    · have hia : i < LL.length := by have := HN.out; omega
      have hga : LL[i]? = some LL[i] := List.getElem?_eq_getElem hia
      generalize LL[i] = l at hga
      have hfew := HFL.out l (List.mem_of_getElem? hga)
      have HF := hide hfew
      have HGA := hide hga
      obtain ⟨v, hv, hsl⟩ := HL.out i l hga
      obtain ⟨p, c, rfl⟩ := strArg_shape hsl
      obtain ⟨A, hA⟩ : ∃ A, A = l.length := ⟨_, rfl⟩
      rw [← hA] at hv hsl
      have HA := hide hA
      have hA4 : A ≤ 10000 := by rw [hA]; exact hfew.1
      have HSL := hide hsl
      have c0 := cell_keep hv HR.out.1
      have HR0 : Hid (Met w wr (10000 * i + 0) (fun y => InL (LL.take i) y ∨ y ∈ (l.take 0).map bl)) := hide (HR.out.to (by omega) (fun x => by simp))
      clear hfew hia hga hA hsl HR hv
      go_wp2_with fail
      go_loopg [9, 23] A (fun g2 v9 v23 wx => ∃ (j : Nat), j + g2 = A ∧ v23 = .int .i64 (j : Int) ∧ Hid (Met w wx (10000 * i + j) (fun y => InL (LL.take i) y ∨ y ∈ (l.take j).map bl)))
      case atStart => exact ⟨0, by omega, rfl, HR0⟩
      case round =>
        obtain ⟨j, hj, rfl, HX⟩ := hrel
        clear c0 HR0
        by_cases hlj : j < A
        · have hja : j < l.length := by have := HA.out; omega
          have hgj : l[j]? = some l[j] := List.getElem?_eq_getElem hja
          generalize l[j] = x at hgj
          obtain ⟨b1, o1, hp1, k1⟩ := strArg_cell (HSL.out.below HX.out.1) hgj
          subst hp1
          have HG := hide hgj
          have hxm := few_max HF.out hgj
          have hkey : keyOf Try.prog 9 (.string x) = some (.string (bl x)) := Go.WideMaps.keyOf_string_mk Try.underlying9 hxm
          obtain ⟨hB, hsz, D, hown, hDk⟩ := HX.out
          have hI := hown.isMap
          have HDK := hide hDk
          clear hgj hja HX hDk hxm
          go_wp2_with (first
            | (at_mapUpdate; refine wpList_mapUpdate_own _ rfl _ _ _ 39 rfl 9 40 law9 Try.underlying39 (unitElem (H := Unit)) w.heap.size _ _ rfl hown (by unfold maxLen; omega) _ _ _ rfl rfl hkey _ [] unitElem_mk ?_; intro w1 hown1 hg1)
            | go_in)
          have HR2 : Hid (Met w w1 (10000 * i + (j + 1)) (fun y => InL (LL.take i) y ∨ y ∈ (l.take (j + 1)).map bl)) := hide
            ⟨hB.grown hg1 hB.size (fun k hk => by cases hk; exact Nat.le_refl _), by have := hg1.size; omega, _, hown1, (HDK.out.put hI _ _).to (fun y => by
              rw [mem_take HG.out]
              exact ⟨fun h => h.elim (fun h => .inr (.inl h)) (fun h => h.elim .inl (fun h => .inr (.inr h))), fun h => h.elim (fun h => .inr (.inl h)) (fun h => h.elim .inl (fun h => .inr (.inr h)))⟩)⟩
          go_roundg (A - (j + 1))
          case measure => omega
          case rel => exact ⟨j + 1, by omega, by first | rfl | (push_cast; rfl), HR2⟩
        · have hjA : j = A := by omega
          subst hjA
          have HE : Hid (Met w wr (10000 * (i + 1)) (InL (LL.take (i + 1)))) := hide (by
            have h := HX.out
            have hl := HA.out
            rw [List.take_of_length_le (l := l) (by omega)] at h
            exact h.to (by omega) (fun y => (inL_step HGA.out y).symm))
          clear HX
          go_wp2_with fail
          go_roundg (n - (i + 1))
          case measure => omega
          case rel => exact ⟨i + 1, by omega, by first | rfl | (push_cast; rfl), HE⟩
    · have hin : i = n := by omega
      subst hin
      have HE : Hid (Met w wr 20000 (fun y => InL LL y ∧ y ∉ (ds.take 0).map bl)) := hide (by
        have h := HR.out
        have hl := HN.out
        rw [List.take_of_length_le (l := LL) (by omega)] at h
        exact h.to (by omega) (fun y => by simp))
      clear HR
      go_wp2_with fail
      go_loopg [11, 34] M (fun g v11 v34 wx => ∃ (j : Nat), j + g = M ∧ v34 = .int .i64 (j : Int) ∧ Hid (Met w wx 20000 (fun y => InL LL y ∧ y ∉ (ds.take j).map bl)))
      case atStart => exact ⟨0, by omega, rfl, HE⟩
      case round =>
        obtain ⟨j, hj, rfl, HX⟩ := hrel
        clear HE
        by_cases hlj : j < M
        · have hja : j < ds.length := by have := HM.out; omega
          have hgj : ds[j]? = some ds[j] := List.getElem?_eq_getElem hja
          generalize ds[j] = x at hgj
          obtain ⟨b1, o1, hp1, k1⟩ := strArg_cell (HU.out.below HX.out.1) hgj
          subst hp1
          have HG := hide hgj
          have hxm := few_max HFD.out hgj
          have hkey : keyOf Try.prog 9 (.string x) = some (.string (bl x)) := Go.WideMaps.keyOf_string_mk Try.underlying9 hxm
          obtain ⟨hB, hsz, D, hown, hDk⟩ := HX.out
          have HDK := hide hDk
          clear hgj hja HX hDk hxm
          go_wp2_with (first
            | (at_delete; refine wpList_delete_own _ rfl _ _ 39 9 rfl 40 law9 Try.underlying39 (unitElem (H := Unit)) w.heap.size _ _ rfl hown _ _ rfl hkey ?_; intro w1 hown1 hm1)
            | go_in)
          have hg1 := hm1.grown
          have HR2 : Hid (Met w w1 20000 (fun y => InL LL y ∧ y ∉ (ds.take (j + 1)).map bl)) := hide
            ⟨hB.grown hg1 hB.size (fun k hk => by cases hk; exact Nat.le_refl _), by have := hg1.size; omega, _, hown1, (HDK.out.del _).to (fun y => by
              rw [mem_take HG.out]
              exact ⟨fun h => ⟨h.1.1, fun hh => hh.elim h.2 h.1.2⟩, fun h => ⟨⟨h.1, fun hh => h.2 (.inr hh)⟩, fun hh => h.2 (.inl hh)⟩⟩)⟩
          go_roundg (M - (j + 1))
          case measure => omega
          case rel => exact ⟨j + 1, by omega, by first | rfl | (push_cast; rfl), HR2⟩
        · have hjM : j = M := by omega
          subst hjM
          obtain ⟨W1, hW1⟩ : ∃ z, z = wr := ⟨_, rfl⟩
          subst hW1
          obtain ⟨hB, hsz, D0, hown, hDk⟩ := HX.out
          have HDK : Hid (KeysAre D0 (fun y => InL LL y ∧ y ∉ ds.map bl)) := hide (by
            have hl := HM.out
            rw [List.take_of_length_le (l := ds) (by omega)] at hDk
            exact hDk)
          have HB := hide hB
          have hsize := hown.size_le
          have hbl := hown.lt
          clear HX hDk hB
          go_wp2_with (first
            | (at_range; refine wpList_range_own _ rfl _ 39 rfl 9 40 law9 Try.underlying39 _ w.heap.size 20000 _ rfl hown ?_; intro w0 hrg0 hg0 hs0)
            | go_in)
          go_frame
          go_loopw [12, 13] (fun v _ wx => ∃ (left : Lit → Bool) (cnt : Nat) (ss : List (List UInt8)), wx.ranges Try.prog 9 (unitElem (H := Unit)) w.heap.size W1.heap.size 20000 D0 left cnt ∧ ss.length + cnt ≤ Maps.size D0 ∧
              wx.ownsRow W1.heap.size 9 1 v ss.length (ss.map encStr) ∧ Collected D0 left ss ∧ Below W1.heap.size W1 wx)
            (fun _ _ wx => wx.rangeLeft w.heap.size W1.heap.size)
          case atStart =>
            exact ⟨_, _, [], hrg0, by simp, World.ownsRow_nil _ _ _ _, Collected.start D0, (Below.refl _ _).grown hg0 (Nat.le_refl _) (fun j hj => by cases hj)⟩
          case round =>
            obtain ⟨left, cnt, ss, hrg, hcs, hrow, hC, hnx⟩ := hrel
            go_wp2_with (first
              | (at_next; refine wpList_next_ranges _ rfl _ rfl 9 law9 (unitElem (H := Unit)) encStr (fun _ : Unit => Value.agg #[]) (fun key kl hk => by obtain ⟨x, hx, _⟩ := Maps.keyOf_str Try.underlying9 hk; exact ⟨x, hx⟩) (fun v y hv => ⟨(), (unitElem_inv hv).1⟩) w.heap.size W1.heap.size 20000 _ _ _ rfl hrg ?_ ?_)
              | go_in)
            · intro hc0 hl0
              have hri := ri_sorted (P := fun x => Maps.has D0 (.string x) = true) hC.1 (fun x => by rw [hC.2 x]; simp [hl0])
              have HRI := hide hri
              have HNX := hide hnx
              clear hri
              rcases hrow.2 with ⟨hnil, hz⟩ | ⟨g, cap, cur, hv, hbase, hb, h1, h2, h3, h4⟩
              · have hss : ss = [] := List.eq_nil_of_length_eq_zero hz
                subst hss
                subst hnil
                have hc := Try.slices_Sort_string_none none 0 wr
                go_wp2_with fail
                refine hc.mono ?_
                rintro e w' ⟨rfl, rfl⟩
                go_wp2_with fail
                go_ret
                refine ⟨⟨_, [], rfl, strArg_nil _, ?_⟩, bel2 HB.out HNX.out⟩
                have h := HRI.out
                rw [List.mergeSort_nil] at h
                exact h.to HDK.out
              · subst hv
                have hH : Holds encStr wr g 0 ss.toArray := holds_of_block hb (by simpa using h4)
                have hgl : g < wr.heap.size := (Array.getElem?_eq_some_iff.1 hb).1
                have hc := Try.slices_Sort_string g 0 cap ss wr hH hgl (by omega)
                go_wp2_with fail
                refine hc.mono ?_
                rintro e w' ⟨rfl, nn, os, rfl⟩
                go_wp2_with fail
                go_ret
                have ho := ownsRow_sorted (os := os) (n := nn) (ts := ss.mergeSort (fun x y => decide (x ≤ y))) (by simp) hbase hb h1 h2 h3
                refine ⟨⟨_, _, rfl, strArg_enc ho (by simp), ?_⟩, bel2 HB.out (HNX.out.grown (grownBy_sorted _) HNX.out.size (fun j hj => by cases hj; exact hbase))⟩
                rw [bl_enc]
                exact HRI.out.to HDK.out
            · intro x c kl y w2 cnt2 hkey hlk hv hat hrg2 hlt hg2 hs2 hen
              obtain ⟨x', ex, rfl, _⟩ := Maps.keyOf_str Try.underlying9 hkey
              obtain rfl : x = x' := encStr_inj ex
              have hrow2 := hrow.kept hg2 (Or.inr (row_ne_iter hrow hrg).symm)
              clear hs2
              go_wp2_with (first
                | (at_builtin; refine wpList_append_own _ rfl _ _ 22 rfl W1.heap.size 9 i0 (.string ⟨#[]⟩) 1 16 Try.underlying22 hi0 hz0 hz1 hz2 rfl (by decide) _ _ _ rfl (hrow2.alloc _) ⟨w2.heap.size, 0, none⟩ 1 1 [encStr x] rfl rfl (one_new _ _ _) (by simp [Value.oneCell', encStr]) (by unfold maxLen at *; omega) (by omega) (by have := hnx.size; have := hg2.size; simp; omega) ?_; intro v3 w3 hown3 hg3 hnil3)
                | go_in)
              have hrg3 := (hrg2.alloc _).kept hg3 (row_ne_low hrow2 hbl) (row_ne_iter hrow2 hrg2)
              go_roundw
              case rel =>
                refine ⟨_, cnt2, ss ++ [x], hrg3, by simp; omega, by simpa using hown3, hC.step hlk hat, ?_⟩
                exact ((hnx.grown hg2 hnx.size (fun j hj => by cases hj; exact Nat.le_refl _)).alloc (by have := hnx.size; have := hg2.size; omega) _).grown hg3 (by have := hnx.size; have := hg2.size; simp; omega) (fun j hj => (hrow2.lt j hj).1)
              case measure => rw [hrg3.left_eq, hrg.left_eq]; exact hlt
end Go.Proofs.Ytddphbbmccfblaa
