/-
  The document's Short and Light, the law's small, walked.
-/
import Derived.Test.YtddphbbmccfblaaDG3
namespace Go.Proofs.Ytddphbbmccfblaa
open Go.RowKit
open Utf1
open Pol8 hiding text right Right
open Dg16

/-- The first of a list, as many as there is room for. -/
def ShQ (w' : World) (ls : List ByteArray) (zs : List Int) (most : Int) (e : Ending) : Prop := ∃ v' k, e = .returned v' ∧ StrCap w' v' (ls.take k) ∧ Sh ls.length zs most k
theorem intArg_cell {w : World} {p : Option Addr} {n c i : Nat} {zs : List Int} {z : Int} (h : IntArg w (.slice p n c) zs) (hi : zs[i]? = some z) : ∃ b o, p = some ⟨b, o, none⟩ ∧ w.cell? ⟨b, o + i, none⟩ = some (.int .i64 z) := by
  obtain ⟨p', c', e, hc⟩ := h
  obtain ⟨b, o, hp, k⟩ := hc i z hi
  injection e with e _ _
  exact ⟨b, o, e.trans hp, k⟩
theorem strCap_le {w : World} {p : Option Addr} {n c : Nat} {ss : List ByteArray} (h : StrCap w (.slice p n c) ss) : n ≤ c := by
  obtain ⟨p', n', c', e, h1⟩ := h.2
  injection e with e1 e2 e3
  omega

set_option maxRecDepth 100000 in
set_option maxHeartbeats 8000000 in
theorem mshort_any (v u : Value) (ls : List ByteArray) (zs : List Int) (most : Int) (hl : ls.length ≤ 1000) (hz : ∀ z ∈ zs, z ≤ 1000000) (w : World) (hv : StrCap w v ls) (hu : IntArg w u zs) :
    Calls Try.prog 18 #[v, u, .int .i64 most] w fun e w' => ShQ w' ls zs most e ∧ Below w.heap.size w w' := by
  have HV := hide hv
  have HU := hide hu
  have HZ := hide hz
  obtain ⟨p, c, rfl, -, -⟩ := hv.1
  obtain ⟨q, d, rfl, -⟩ := hu
  obtain ⟨N, hN⟩ : ∃ N, N = ls.length := ⟨_, rfl⟩
  obtain ⟨M, hM⟩ : ∃ M, M = zs.length := ⟨_, rfl⟩
  rw [← hN] at HV hl hv ⊢
  rw [← hM] at HU ⊢
  have hNc := strCap_le hv
  have HN := hide hN
  clear hN hM hz hv
  go_enter Try.func18, Try.ntmps18
  go_wp2_with fail
  go_loopg [7, 8] N (fun g v7 v8 wr => ∃ (j : Nat) (S : Int), j + g = N ∧ v8 = .int .i64 (j : Int) ∧ v7 = .int .i64 S ∧ 0 ≤ S ∧ S ≤ 1000000000 ∧ Hid (S = sumTo zs j ∧ (∀ i, 0 < i → i < j → sumTo zs (i + 1) ≤ most) ∧ Below w.heap.size w wr))
  case atStart => exact ⟨0, 0, by omega, rfl, rfl, by omega, by omega, hide ⟨rfl, fun i h1 h2 => by omega, Below.refl _ _⟩⟩
  case round =>
    obtain ⟨j, S, hj, rfl, rfl, hS0, hS1, HI⟩ := hrel
    by_cases hlt : j < N
    · obtain ⟨Z, hZ⟩ : ∃ Z, Z = sz zs j := ⟨_, rfl⟩
      have hZ0 : 0 ≤ Z := by rw [hZ]; exact sz_pos _ _
      have hZ1 : Z ≤ 1000000 := by rw [hZ]; exact sz_small HZ.out j
      have hSZ : S + Z ≤ 1000000000 := by
        have h := sum_small HZ.out (j + 1)
        have h2 : sumTo zs (j + 1) = S + Z := by rw [HI.out.1, hZ]; rfl
        rw [h2] at h
        omega
      have CS := hide (size_any _ zs j wr (HU.out.below HI.out.2.2) Z hZ)
      have hSum : S + Z = sumTo zs (j + 1) := by rw [HI.out.1, hZ]; rfl
      have HSUM := hide hSum
      clear hZ hSum
      go_wp2_with fail
      refine CS.out.mono ?_
      rintro e w2 ⟨rfl, hb2⟩
      have HB2 := hide (bel2 HI.out.2.2 hb2)
      clear hb2 CS
      by_cases hj0 : 0 < j
      · have e1 : decide ((0 : Int) < (j : Int)) = true := decide_eq_true (by omega)
        have e1' : decide (0 < j) = true := decide_eq_true hj0
        by_cases hm : most < S + Z
        · have e2 : decide (most < S + Z) = true := decide_eq_true hm
          have hja : j < ls.length := by have := HN.out; omega
          have hga : ls[j]? = some ls[j] := List.getElem?_eq_getElem hja
          obtain ⟨b1, o1, hp1, -⟩ := strArg_cell (HV.out.1.below HB2.out) hga
          subst hp1
          have hjc : j ≤ c := by omega
          have OE := hide (own_empty w2 w.heap.size HB2.out.size)
          have HT : Hid (StrArg (w2.alloc (.cells #[] 9)) (.slice (some ⟨b1, o1, none⟩) j c) (ls.take j)) := hide ((strArg_take (HV.out.1.below HB2.out) j (by omega)).below (bel_alloc (Below.refl _ _) _))
          have HB3 : Hid (Below w.heap.size w (w2.alloc (.cells #[] 9))) := hide (bel_alloc HB2.out _)
          have HSH : Hid (Sh ls.length zs most j) := hide ⟨by have := HN.out; omega, HI.out.2.1, .inr ⟨hj0, by rw [← HSUM.out]; exact hm⟩⟩
          have HTL : Hid ((ls.take j).length ≤ 1000) := hide (by rw [List.length_take]; have := HN.out; omega)
          clear hga hja HI hm HSUM
          go_wp2_with (at_builtin; refine dappend_strs rfl _ _ rfl w.heap.size _ 0 [] rfl OE.out _ (ls.take j) rfl HT.out (by have := HTL.out; omega) HB3.out.size ?_)
          intro v4 w4 ho4 hg4
          have HB4 := hide (HB3.out.grown hg4 HB3.out.size (fun k hk => (OE.out.lt k hk).1))
          have HO4 : Hid (w4.ownsRow w.heap.size 9 1 v4 (ls.take j).length (strV (ls.take j))) := hide (by first | exact ho4 | simpa using ho4)
          clear ho4 hg4
          go_wp2_with fail
          go_ret
          exact ⟨⟨_, j, rfl, strCap_own HO4.out, HSH.out⟩, HB4.out⟩
        · have e2 : decide (most < S + Z) = false := decide_eq_false hm
          have HM := hide hm
          clear hm
          go_wp2_with fail
          go_roundg (N - (j + 1))
          case measure => omega
          case rel => exact ⟨j + 1, S + Z, by omega, rfl, rfl, by omega, by omega, hide ⟨HSUM.out, fun i h1 h2 => by
            rcases Nat.lt_or_ge i j with h | h
            · exact HI.out.2.1 i h1 h
            · have : i = j := by omega
              subst this
              rw [← HSUM.out]
              have := HM.out
              omega, HB2.out⟩⟩
      · have e1 : decide ((0 : Int) < (j : Int)) = false := decide_eq_false (by omega)
        have HJ0 := hide hj0
        clear hj0
        go_wp2_with fail
        go_roundg (N - (j + 1))
        case measure => omega
        case rel => exact ⟨j + 1, S + Z, by omega, rfl, rfl, by omega, by omega, hide ⟨HSUM.out, fun i h1 h2 => by have := HJ0.out; omega, HB2.out⟩⟩
    · have hd : decide ((j : Int) < (N : Int)) = false := decide_eq_false (by omega)
      have OE := hide (own_empty wr w.heap.size HI.out.2.2.size)
      have HT : Hid (StrArg (wr.alloc (.cells #[] 9)) (.slice p N c) ls) := hide ((HV.out.1.below HI.out.2.2).below (bel_alloc (Below.refl _ _) _))
      have HB3 : Hid (Below w.heap.size w (wr.alloc (.cells #[] 9))) := hide (bel_alloc HI.out.2.2 _)
      have HSH : Hid (Sh ls.length zs most ls.length) := hide ⟨Nat.le_refl _, fun i h1 h2 => HI.out.2.1 i h1 (by have := HN.out; omega), .inl rfl⟩
      have HTL : Hid (ls.length ≤ 1000) := hide (by have := HN.out; omega)
      clear HI
      go_wp2_with (at_builtin; refine dappend_strs rfl _ _ rfl w.heap.size _ 0 [] rfl OE.out _ ls rfl HT.out (by have := HTL.out; omega) HB3.out.size ?_)
      intro v4 w4 ho4 hg4
      have HB4 := hide (HB3.out.grown hg4 HB3.out.size (fun k hk => (OE.out.lt k hk).1))
      have HO4 : Hid (w4.ownsRow w.heap.size 9 1 v4 ls.length (strV ls)) := hide (by first | exact ho4 | simpa using ho4)
      clear ho4 hg4
      go_wp2_with fail
      go_ret
      exact ⟨⟨_, ls.length, rfl, by rw [List.take_length]; exact strCap_own HO4.out, HSH.out⟩, HB4.out⟩

set_option maxRecDepth 100000 in
set_option maxHeartbeats 8000000 in
theorem light_any (v : Value) (ls : List ByteArray) (w : World) (hv : StrArg w v ls) :
    Calls Try.prog 10 #[v] w fun e w' => (∃ b : Bool, e = .returned (.bool b) ∧ (b = true → ls.length ≤ 300 ∧ ∀ x ∈ ls, x.size ≤ 5000)) ∧ Below w.heap.size w w' := by
  have HV := hide hv
  obtain ⟨p, c, rfl, -, -⟩ := hv
  obtain ⟨N, hN⟩ : ∃ N, N = ls.length := ⟨_, rfl⟩
  rw [← hN] at HV ⊢
  have HN := hide hN
  clear hN
  go_enter Try.func10, Try.ntmps10
  go_wp2_with fail
  go_loopg [3, 4] N (fun g v3 v4 wr => ∃ (j S : Nat), j + g = N ∧ v4 = .int .i64 (j : Int) ∧ v3 = .int .i64 (S : Int) ∧ S ≤ 20000 ∧ j ≤ S ∧ Hid ((∀ i x, i < j → ls[i]? = some x → 1 + min x.size 5000 ≤ S) ∧ Below w.heap.size w wr))
  case atStart => exact ⟨0, 0, by omega, rfl, rfl, by omega, by omega, hide ⟨fun i x h => by omega, Below.refl _ _⟩⟩
  case round =>
    obtain ⟨j, S, hj, rfl, rfl, hS, hjS, HI⟩ := hrel
    by_cases hlt : j < N
    · by_cases hS5 : S < 5000
      · have e1 : decide ((S : Int) < 5000) = true := decide_eq_true (by omega)
        have e1' : decide (S < 5000) = true := decide_eq_true hS5
        have hja : j < ls.length := by have := HN.out; omega
        have hga : ls[j]? = some ls[j] := List.getElem?_eq_getElem hja
        generalize ls[j] = x at hga
        obtain ⟨b1, o1, hp1, k1⟩ := strArg_cell (HV.out.below HI.out.2) hga
        subst hp1
        have HG := hide hga
        clear hga hja
        have HS : Hid (∀ T : Nat, S + 1 + min x.size 5000 ≤ T → ∀ i y, i < j + 1 → ls[i]? = some y → 1 + min y.size 5000 ≤ T) := hide (fun T hT i y hi hy => by
          rcases Nat.lt_or_ge i j with h | h
          · have := HI.out.1 i y h hy
            omega
          · have : i = j := by omega
            subst this
            rw [HG.out] at hy
            injection hy with hy
            subst hy
            omega)
        by_cases hz : 5000 < x.size
        · have f1 : decide ((5000 : Int) < (x.size : Int)) = true := decide_eq_true (by omega)
          have f3 : (5000 : Int) < (x.size : Int) := by omega
          go_wp2_with fail
          go_roundg (N - (j + 1))
          case measure => omega
          case rel => exact ⟨j + 1, S + 1 + 5000, by omega, rfl, by first | rfl | (push_cast; rfl), by omega, by omega, hide ⟨HS.out _ (by omega), HI.out.2⟩⟩
        · have f1 : decide ((5000 : Int) < (x.size : Int)) = false := decide_eq_false (by omega)
          have f3 : ¬ (5000 : Int) < (x.size : Int) := by omega
          have hS' : S + 1 + x.size ≤ 20000 := by omega
          go_wp2_with fail
          go_roundg (N - (j + 1))
          case measure => omega
          case rel => exact ⟨j + 1, S + 1 + x.size, by omega, rfl, by first | rfl | (push_cast; rfl), by omega, by omega, hide ⟨HS.out _ (by omega), HI.out.2⟩⟩
      · have e1 : decide ((S : Int) < 5000) = false := decide_eq_false (by omega)
        have e1' : decide (S < 5000) = false := decide_eq_false hS5
        go_wp2_with fail
        go_ret
        exact ⟨⟨false, rfl, fun h => by cases h⟩, HI.out.2⟩
    · have hd : decide ((j : Int) < (N : Int)) = false := decide_eq_false (by omega)
      by_cases hS5 : S < 5000
      · have e1 : decide ((S : Int) < 5000) = true := decide_eq_true (by omega)
        have e1' : decide (S < 5000) = true := decide_eq_true hS5
        by_cases hN3 : N ≤ 300
        · have e2 : decide ((N : Int) ≤ 300) = true := decide_eq_true (by omega)
          have e2' : decide (N ≤ 300) = true := decide_eq_true hN3
          have HB : Hid (N ≤ 300 ∧ ∀ x ∈ ls, x.size ≤ 5000) := hide ⟨hN3, fun x hx => by
            obtain ⟨i, hi⟩ := List.getElem?_of_mem hx
            have h1 := (List.getElem?_eq_some_iff.1 hi).1
            have h2 := HN.out
            have h3 := HI.out.1 i x (by omega) hi
            omega⟩
          go_wp2_with fail
          go_ret
          exact ⟨⟨true, rfl, fun _ => HB.out⟩, HI.out.2⟩
        · have e2 : decide ((N : Int) ≤ 300) = false := decide_eq_false (by omega)
          have e2' : decide (N ≤ 300) = false := decide_eq_false hN3
          go_wp2_with fail
          go_ret
          exact ⟨⟨false, rfl, fun h => by cases h⟩, HI.out.2⟩
      · have e1 : decide ((S : Int) < 5000) = false := decide_eq_false (by omega)
        have e1' : decide (S < 5000) = false := decide_eq_false hS5
        go_wp2_with fail
        go_ret
        exact ⟨⟨false, rfl, fun h => by cases h⟩, HI.out.2⟩

set_option maxRecDepth 100000 in
set_option maxHeartbeats 8000000 in
theorem small_any (v : Value) (zs : List Int) (hl : zs.length ≤ 9223372036854775807) (w : World) (hv : IntArg w v zs) :
    Calls Try.prog 16 #[v] w fun e w' => (∃ b : Bool, e = .returned (.bool b) ∧ (b = true → zs.length ≤ 1000 ∧ ∀ z ∈ zs, z ≤ 1000000)) ∧ Below w.heap.size w w' := by
  have HV := hide hv
  obtain ⟨p, c, rfl, -⟩ := hv
  obtain ⟨N, hN⟩ : ∃ N, N = zs.length := ⟨_, rfl⟩
  rw [← hN] at HV hl ⊢
  have HN := hide hN
  clear hN
  go_enter Try.func16, Try.ntmps16
  go_wp2_with fail
  go_loopg [3] N (fun g v3 wr => ∃ j : Nat, j + g = N ∧ v3 = .int .i64 (j : Int) ∧ Hid ((∀ i z, i < j → zs[i]? = some z → z ≤ 1000000) ∧ Below w.heap.size w wr))
  case atStart => exact ⟨0, by omega, rfl, hide ⟨fun i x h => by omega, Below.refl _ _⟩⟩
  case round =>
    obtain ⟨j, hj, rfl, HI⟩ := hrel
    by_cases hlt : j < N
    · have hja : j < zs.length := by have := HN.out; omega
      have hga : zs[j]? = some zs[j] := List.getElem?_eq_getElem hja
      generalize zs[j] = z at hga
      obtain ⟨b1, o1, hp1, k1⟩ := intArg_cell (HV.out.below HI.out.2) hga
      subst hp1
      have HG := hide hga
      clear hga hja
      by_cases hz : 1000000 < z
      · have f1 : decide ((1000000 : Int) < z) = true := decide_eq_true hz
        go_wp2_with fail
        go_ret
        exact ⟨⟨false, rfl, fun h => by cases h⟩, HI.out.2⟩
      · have f1 : decide ((1000000 : Int) < z) = false := decide_eq_false hz
        have HZ := hide hz
        clear hz
        go_wp2_with fail
        go_roundg (N - (j + 1))
        case measure => omega
        case rel => exact ⟨j + 1, by omega, rfl, hide ⟨fun i y hi hy => by
          rcases Nat.lt_or_ge i j with h | h
          · exact HI.out.1 i y h hy
          · have : i = j := by omega
            subst this
            rw [HG.out] at hy
            injection hy with hy
            subst hy
            have := HZ.out
            omega, HI.out.2⟩⟩
    · have hd : decide ((j : Int) < (N : Int)) = false := decide_eq_false (by omega)
      by_cases hN3 : N ≤ 1000
      · have e2 : decide ((N : Int) ≤ 1000) = true := decide_eq_true (by omega)
        have e2' : decide (N ≤ 1000) = true := decide_eq_true hN3
        have HB : Hid (N ≤ 1000 ∧ ∀ z ∈ zs, z ≤ 1000000) := hide ⟨hN3, fun z hx => by
          obtain ⟨i, hi⟩ := List.getElem?_of_mem hx
          have h1 := (List.getElem?_eq_some_iff.1 hi).1
          have h2 := HN.out
          exact HI.out.1 i z (by omega) hi⟩
        go_wp2_with fail
        go_ret
        exact ⟨⟨true, rfl, fun _ => HB.out⟩, HI.out.2⟩
      · have e2 : decide ((N : Int) ≤ 1000) = false := decide_eq_false (by omega)
        have e2' : decide (N ≤ 1000) = false := decide_eq_false hN3
        go_wp2_with fail
        go_ret
        exact ⟨⟨false, rfl, fun h => by cases h⟩, HI.out.2⟩
end Go.Proofs.Ytddphbbmccfblaa
