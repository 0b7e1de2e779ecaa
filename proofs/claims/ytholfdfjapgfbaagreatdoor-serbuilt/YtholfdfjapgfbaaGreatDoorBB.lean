/-
  What tok.begins answers at every text that is not empty.
-/
import Derived.Test.YtholfdfjapgfbaaGreatDoorT2
import Derived.Test.YtholfdfjapgfbaaGreatDoorU0
import Derived.Test.YtholfdfjapgfbaaGreatDoorU5
import Derived.Test.YtholfdfjapgfbaaGreatDoorU3
import Derived.Test.YtholfdfjapgfbaaGreatDoorU4
import Derived.Test.YtholfdfjapgfbaaGreatDoorU7
import Derived.Test.YtholfdfjapgfbaaGreatDoorRows
import Derived.ProofKit
import Derived.LaidMore
import Derived.OpenShut
import Derived.Stop.Joined
import Derived.Stop.LaidErr
import Derived.Shelf.Vars
import Derived.SizedLaws

namespace Go.Proofs.YtholfdfjapgfbaaGreatDoor
open Go.RowKit
open Utf1

theorem idxK {s : ByteArray} {k : Nat} {c : UInt8} (h : (bl s)[k]? = some c) (w : World) : (Instr.index 9 (.string s) (.int .i64 (k : Int))).run Tryz.prog w = .ok (.int .u8 (c.toNat : Int)) w := by
  have hl : k < s.size := by
    rw [← bl_len]
    exact (List.getElem?_eq_some_iff.1 h).1
  have := idx_run s k 0 hl w
  rw [atN_drop s k hl] at this
  have e : (bl s)[k]'(by rw [bl_len]; exact hl) = c := by
    rw [List.getElem?_eq_getElem (by rw [bl_len]; exact hl)] at h
    exact Option.some.inj h
  rw [e] at this
  exact this
theorem u8b (c : UInt8) (n : Nat) (hn : n < 256) : (((c.toNat : Int)) == (n : Int)) = decide (c = UInt8.ofNat n) := by
  by_cases h : c = UInt8.ofNat n
  · rw [decide_eq_true h]
    rw [(u8_eq hn).1 h]
    simp
  · rw [decide_eq_false h]
    refine beq_eq_false_iff_ne.2 fun e => h ((u8_eq hn).2 (by omega))

theorem prefix4 (d : UInt8) (u : List UInt8) : [60, 33, 45, 45].isPrefixOf (60 :: d :: u) = [33, 45, 45].isPrefixOf (d :: u) := by
  simp [List.isPrefixOf]

set_option maxHeartbeats 4000000 in
theorem begins_any (s : ByteArray) (w : World) (hne : 1 ≤ s.size) :
    Calls Tryz.prog 21 #[.string s] w fun e w' => e = .returned (.int .i64 (beg (bl s) : Int)) ∧ w' = w := by
  have hl := bl_len s
  rcases hb : bl s with _ | ⟨c, t⟩
  · rw [hb] at hl
    simp at hl
    omega
  have i00 := fun w => idxK (s := s) (k := 0) (c := c) (by rw [hb]; rfl) w
  have z0 := u8b c 60 (by decide)
  obtain ⟨z, hz⟩ : ∃ z : Int, z = (c.toNat : Int) := ⟨_, rfl⟩
  rw [← hz] at z0
  have i0 : ∀ w, (Instr.index 9 (.string s) (.int .i64 0)).run Tryz.prog w = .ok (.int .u8 z) w := by
    rw [hz]
    exact i00
  clear hz i00
  by_cases hc : c = 60
  case neg =>
    have zb : (z != 60) = true := by
      unfold bne
      rw [show (z == 60) = decide (c = 60) from z0, decide_eq_false hc]
      rfl
    rw [beg_ne t hc]
    clear hb hc z0 hl
    go_enter Tryz.func21, Tryz.ntmps21
    go_wp2
    go_ret
    exact ⟨rfl, rfl⟩
  have zb : (z != 60) = false := by
    unfold bne
    rw [show (z == 60) = decide (c = 60) from z0, decide_eq_true hc]
    rfl
  subst hc
  rw [beg_lt]
  clear z0
  rcases ht : t with _ | ⟨d, u⟩
  · have hs1 : s.size = 1 := by rw [← hl, hb, ht]; rfl
    show Calls _ _ _ _ fun e w' => e = .returned (.int .i64 ((0 : Nat) : Int)) ∧ w' = w
    have HS := hide hs1
    clear hb ht hl
    go_enter Tryz.func21, Tryz.ntmps21
    go_wp2
    go_ret
    exact ⟨rfl, rfl⟩
  subst ht
  have hs2 : 2 ≤ s.size := by rw [← hl, hb]; simp
  have hpre := fun w => Tryz.strings_HasPrefix s ⟨#[60, 33, 45, 45]⟩ w
  have hpv : Lib.hasPrefix s.data.toList (⟨#[60, 33, 45, 45]⟩ : ByteArray).data.toList = [33, 45, 45].isPrefixOf (d :: u) := by
    show [60, 33, 45, 45].isPrefixOf (bl s) = _
    rw [hb, prefix4]
  rw [hpv] at hpre
  clear hpv
  cases hp : [33, 45, 45].isPrefixOf (d :: u) with
  | true =>
    rw [hp] at hpre
    have e1 : beg1 (d :: u) = 1 := by
      unfold beg1
      simp only
      rw [if_pos hp]
    rw [e1]
    clear hb hl hp e1
    go_enter Tryz.func21, Tryz.ntmps21
    go_wp2_with fail
    refine (hpre _).mono ?_
    rintro e w1 ⟨rfl, rfl⟩
    go_wp2_with fail
    go_ret
    exact ⟨rfl, rfl⟩
  | false =>
    rw [hp] at hpre
    have i11 := fun w => idxK (s := s) (k := 1) (c := d) (by rw [hb]; rfl) w
    have y33 := u8b d 33 (by decide)
    have y63 := u8b d 63 (by decide)
    have y47 := u8b d 47 (by decide)
    have hlet := fun w => isLetter_any d w
    obtain ⟨y, hy⟩ : ∃ y : Int, y = (d.toNat : Int) := ⟨_, rfl⟩
    rw [← hy] at y33 y63 y47 hlet
    have i1 : ∀ w, (Instr.index 9 (.string s) (.int .i64 1)).run Tryz.prog w = .ok (.int .u8 y) w := by
      rw [hy]
      exact i11
    clear hy i11
    have y33 : (y == 33) = decide (d = 33) := y33
    have y63 : (y == 63) = decide (d = 63) := y63
    have y47 : (y != 47) = !decide (d = 47) := congrArg not y47
    have eb : beg1 (d :: u) = if d = 33 ∨ d = 63 then 2 else if isLet d then 3 else if d ≠ 47 then 0 else beg2 u := by
      unfold beg1
      simp only
      rw [if_neg (by rw [hp]; simp)]
    rw [eb]
    clear eb hp
    by_cases h33 : d = 33
    · rw [decide_eq_true h33] at y33
      rw [if_pos (.inl h33)]
      clear hb hl h33 y63 y47
      go_enter Tryz.func21, Tryz.ntmps21
      go_wp2_with fail
      refine (hpre _).mono ?_
      rintro e w1 ⟨rfl, rfl⟩
      go_wp2_with fail
      go_ret
      exact ⟨rfl, rfl⟩
    rw [decide_eq_false h33] at y33
    by_cases h63 : d = 63
    · rw [decide_eq_true h63] at y63
      rw [if_pos (.inr h63)]
      clear hb hl h33 h63 y47
      go_enter Tryz.func21, Tryz.ntmps21
      go_wp2_with fail
      refine (hpre _).mono ?_
      rintro e w1 ⟨rfl, rfl⟩
      go_wp2_with fail
      go_ret
      exact ⟨rfl, rfl⟩
    rw [decide_eq_false h63] at y63
    rw [if_neg (by rintro (h | h) <;> contradiction)]
    cases hL : isLet d with
    | true =>
      rw [hL] at hlet
      rw [if_pos rfl]
      clear hb hl h33 h63 hL y47
      go_enter Tryz.func21, Tryz.ntmps21
      go_wp2_with fail
      refine (hpre _).mono ?_
      rintro e w1 ⟨rfl, rfl⟩
      go_wp2_with fail
      refine (hlet _).mono ?_
      rintro e w1 ⟨rfl, rfl⟩
      go_wp2_with fail
      go_ret
      exact ⟨rfl, rfl⟩
    | false =>
      rw [hL] at hlet
      rw [if_neg (by simp)]
      by_cases h47 : d = 47
      case neg =>
        rw [decide_eq_false h47] at y47
        have y47 : (y != 47) = true := y47
        rw [if_pos h47]
        clear hb hl h33 h63 hL h47
        go_enter Tryz.func21, Tryz.ntmps21
        go_wp2_with fail
        refine (hpre _).mono ?_
        rintro e w1 ⟨rfl, rfl⟩
        go_wp2_with fail
        refine (hlet _).mono ?_
        rintro e w1 ⟨rfl, rfl⟩
        go_wp2_with fail
        go_ret
        exact ⟨rfl, rfl⟩
      rw [decide_eq_true h47] at y47
      have y47 : (y != 47) = false := y47
      rw [if_neg (by simpa using h47)]
      rcases hu : u with _ | ⟨f, v⟩
      · have hs3 : s.size = 2 := by rw [← hl, hb, hu]; rfl
        show Calls _ _ _ _ fun e w' => e = .returned (.int .i64 ((0 : Nat) : Int)) ∧ w' = w
        clear hb hl h33 h63 hL h47 hu
        go_enter Tryz.func21, Tryz.ntmps21
        go_wp2_with fail
        refine (hpre _).mono ?_
        rintro e w1 ⟨rfl, rfl⟩
        go_wp2_with fail
        refine (hlet _).mono ?_
        rintro e w1 ⟨rfl, rfl⟩
        go_wp2_with fail
        go_ret
        exact ⟨rfl, rfl⟩
      subst hu
      have hs3 : 3 ≤ s.size := by rw [← hl, hb]; simp
      have i22 := fun w => idxK (s := s) (k := 2) (c := f) (by rw [hb]; rfl) w
      have hle2 := fun w => isLetter_any f w
      obtain ⟨x, hx⟩ : ∃ x : Int, x = (f.toNat : Int) := ⟨_, rfl⟩
      rw [← hx] at hle2
      have i2 : ∀ w, (Instr.index 9 (.string s) (.int .i64 2)).run Tryz.prog w = .ok (.int .u8 x) w := by
        rw [hx]
        exact i22
      clear hx i22
      have e2 : beg2 (f :: v) = if isLet f then 3 else 2 := rfl
      rw [e2]
      clear e2
      cases hF : isLet f with
      | true =>
        rw [hF] at hle2
        rw [if_pos rfl]
        clear hb hl h33 h63 hL h47 hF
        go_enter Tryz.func21, Tryz.ntmps21
        go_wp2_with fail
        refine (hpre _).mono ?_
        rintro e w1 ⟨rfl, rfl⟩
        go_wp2_with fail
        refine (hlet _).mono ?_
        rintro e w1 ⟨rfl, rfl⟩
        go_wp2_with fail
        refine (hle2 _).mono ?_
        rintro e w1 ⟨rfl, rfl⟩
        go_wp2_with fail
        go_ret
        exact ⟨rfl, rfl⟩
      | false =>
        rw [hF] at hle2
        rw [if_neg (by simp)]
        clear hb hl h33 h63 hL h47 hF
        go_enter Tryz.func21, Tryz.ntmps21
        go_wp2_with fail
        refine (hpre _).mono ?_
        rintro e w1 ⟨rfl, rfl⟩
        go_wp2_with fail
        refine (hlet _).mono ?_
        rintro e w1 ⟨rfl, rfl⟩
        go_wp2_with fail
        refine (hle2 _).mono ?_
        rintro e w1 ⟨rfl, rfl⟩
        go_wp2_with fail
        go_ret
        exact ⟨rfl, rfl⟩
end Go.Proofs.YtholfdfjapgfbaaGreatDoor

/-
  What tok.textLen answers where text begins.
-/
namespace Go.Proofs.YtholfdfjapgfbaaGreatDoor
open Go.RowKit
open Utf1

theorem index_lt (l : List UInt8) (c : UInt8) (h : 0 ≤ Lib.indexByte l c) : (Lib.indexByte l c).toNat < l.length ∧ l[(Lib.indexByte l c).toNat]? = some c ∧ ∀ j, j < (Lib.indexByte l c).toNat → l[j]? ≠ some c := by
  induction l with
  | nil => simp [Lib.indexByte] at h
  | cons b t ih =>
    have hge := Lib.indexByte_ge t c
    unfold Lib.indexByte at h ⊢
    by_cases hb : b = c
    · subst hb
      simp
    · rw [if_neg (by simpa using hb)] at h ⊢
      split at h
      · omega
      · rename_i hne
        have hne' : Lib.indexByte t c ≠ -1 := by simpa using hne
        rw [if_neg hne]
        obtain ⟨h1, h2, h3⟩ := ih (by omega)
        have e : (Lib.indexByte t c + 1).toNat = (Lib.indexByte t c).toNat + 1 := by omega
        rw [e]
        refine ⟨by simp; omega, by simpa using h2, ?_⟩
        intro j hj
        cases j with
        | zero => simpa using hb
        | succ j => simpa using h3 j (by omega)
theorem stop_one (c : UInt8) (t : List UInt8) (h : beg (c :: t) = 0) : stop (c :: t) = stop t + 1 := by
  rw [stop, if_pos h]
theorem stop_zero (c : UInt8) (t : List UInt8) (h : beg (c :: t) ≠ 0) : stop (c :: t) = 0 := by
  rw [stop, if_neg h]
theorem stop_skip : ∀ (k : Nat) (l : List UInt8), k ≤ l.length → (∀ j, j < k → l[j]? ≠ some 60) → stop l = k + stop (l.drop k)
  | 0, l, _, _ => by simp
  | k + 1, [], h, _ => by simp at h
  | k + 1, c :: t, h, hno => by
    have hc : c ≠ 60 := by simpa using hno 0 (by omega)
    have := stop_skip k t (by simpa using h) (fun j hj => by simpa using hno (j + 1) (by omega))
    rw [List.drop_succ_cons, stop_one c t (beg_ne t hc), this]
    omega
theorem stop_all (l : List UInt8) (h : l.contains 60 = false) : stop l = l.length := by
  have := stop_skip l.length l (Nat.le_refl _) (by
    intro j hj e
    have : (60 : UInt8) ∈ l := List.mem_of_getElem? e
    rw [← List.contains_iff_mem] at this
    rw [h] at this
    cases this)
  rw [this]
  simp [stop]

set_option maxHeartbeats 4000000 in
theorem textLen_any (s : ByteArray) (w : World) (hne : 1 ≤ s.size) (hs : s.size ≤ 4294967280) (hb : beg (bl s) = 0) :
    Calls Tryz.prog 26 #[.string s] w fun e w' => e = .returned (.int .i64 (stop (bl s) : Int)) ∧ Below w.heap.size w w' := by
  have hl := bl_len s
  have H0 : Hid (stop (bl s) = 1 + stop ((bl s).drop 1)) := hide (by
    cases hh : bl s with
    | nil =>
      rw [hh] at hl
      simp at hl
      omega
    | cons c t =>
      rw [hh] at hb
      rw [stop_one c t hb]
      simp
      omega)
  clear hb
  go_enter Tryz.func26, Tryz.ntmps26
  go_wp2
  go_loopg [3] (s.size - 1) (fun g v wr => ∃ p : Nat, p + g = s.size ∧ v = .int .i64 (p : Int) ∧ wr = w ∧ 1 ≤ p ∧ Hid (stop (bl s) = p + stop ((bl s).drop p)))
  case atStart => exact ⟨1, by omega, rfl, rfl, by omega, H0⟩
  case round =>
    obtain ⟨p, hpg, rfl, rfl, hp1, HS⟩ := hrel
    have hix := fun w => Tryz.strings_IndexByte (s.extract p s.size) 60 w
    have hbe : bl (s.extract p s.size) = (bl s).drop p := by
      rw [ext_drop]
    have e60 : ((60 : Int)).toNat.toUInt8 = 60 := by decide
    rw [e60] at hix
    have hix : ∀ w, Calls Tryz.prog 52 #[.string (s.extract p s.size), .int .u8 60] w fun e w' => e = .returned (.int .i64 (Lib.indexByte ((bl s).drop p) 60)) ∧ w' = w := by
      intro w
      rw [← hbe]
      exact hix w
    have hmem := index_mem ((bl s).drop p) 60
    have hlt := index_lt ((bl s).drop p) 60
    obtain ⟨k, hk⟩ : ∃ k, k = Lib.indexByte ((bl s).drop p) 60 := ⟨_, rfl⟩
    rw [← hk] at hmem hlt
    have hix : ∀ w, Calls Tryz.prog 52 #[.string (s.extract p s.size), .int .u8 60] w fun e w' => e = .returned (.int .i64 k) ∧ w' = w := by
      intro w
      rw [hk]
      exact hix w
    clear hk e60 hbe H0
    by_cases hk0 : 0 ≤ k
    case neg =>
      have hkn : k < 0 := by omega
      have HF : Hid (stop (bl s) = s.size) := hide (by
        rw [HS.out, stop_all _ (by
          cases hh : ((bl s).drop p).contains 60 with
          | false => rfl
          | true => exact absurd (hmem.2 hh) hk0), List.length_drop, hl]
        omega)
      clear hmem hlt HS hk0
      go_wp2_with fail
      refine (hix _).mono ?_
      rintro e w1 ⟨rfl, rfl⟩
      go_wp2_with fail
      go_ret
      rw [HF.out]
      exact ⟨rfl, Below.refl _ _⟩
    obtain ⟨kn, rfl⟩ : ∃ kn : Nat, k = (kn : Int) := ⟨k.toNat, by omega⟩
    obtain ⟨h1, h2, h3⟩ := hlt hk0
    rw [Int.toNat_natCast] at h1 h2 h3
    rw [List.length_drop, hl] at h1
    have hbe2 : bl (s.extract (p + kn) s.size) = (bl s).drop (p + kn) := by rw [ext_drop]
    have hbg := fun w => begins_any (s.extract (p + kn) s.size) w (by simp; omega)
    rw [hbe2] at hbg
    have hst : stop (bl s) = p + (kn + stop ((bl s).drop (p + kn))) := by
      rw [HS.out, stop_skip kn ((bl s).drop p) (by rw [List.length_drop, hl]; omega) h3, List.drop_drop]
    have hdc := drop_cons s (p + kn) (by omega)
    generalize (bl s)[p + kn]'(by rw [bl_len]; omega) = c at hdc
    obtain ⟨b, hbb⟩ : ∃ b, b = beg ((bl s).drop (p + kn)) := ⟨_, rfl⟩
    rw [← hbb] at hbg
    have hb3 := beg_le ((bl s).drop (p + kn))
    rw [← hbb] at hb3
    by_cases hb0 : b = 0
    · have HN : Hid (stop (bl s) = p + kn + 1 + stop ((bl s).drop (p + kn + 1))) := hide (by
        rw [hst, hdc, stop_one _ _ (by rw [← hdc, ← hbb, hb0])]
        omega)
      subst hb0
      clear hmem hlt HS h2 h3 hst hdc hbb hbe2 hk0 hb3
      go_wp2_with fail
      refine (hix _).mono ?_
      rintro e w1 ⟨rfl, rfl⟩
      go_wp2_with fail
      refine (hbg _).mono ?_
      rintro e w1 ⟨rfl, rfl⟩
      go_wp2_with fail
      go_roundg (gk - (kn + 1))
      case measure => omega
      case rel => exact ⟨p + kn + 1, by omega, by first | rfl | simp, rfl, by omega, HN⟩
    · have HF : Hid (stop (bl s) = p + kn) := hide (by
        rw [hst, hdc, stop_zero _ _ (by rw [← hdc, ← hbb]; exact hb0)]
        omega)
      have hbz : ((b : Int) != 0) = true := bne_iff_ne.2 (by omega)
      clear hmem hlt HS h2 h3 hst hdc hbb hbe2 hk0 hb3 hb0
      go_wp2_with fail
      refine (hix _).mono ?_
      rintro e w1 ⟨rfl, rfl⟩
      go_wp2_with fail
      refine (hbg _).mono ?_
      rintro e w1 ⟨rfl, rfl⟩
      go_wp2_with fail
      go_ret
      rw [HF.out]
      exact ⟨by first | rfl | simp, Below.refl _ _⟩
end Go.Proofs.YtholfdfjapgfbaaGreatDoor

/-
  What tok.Raw answers at every name.
-/
namespace Go.Proofs.YtholfdfjapgfbaaGreatDoor
open Go.RowKit
open Utf1

theorem eq_lit (s : ByteArray) (l : List UInt8) : (s.toList == l) = decide (bl s = l) := by
  rw [ByteArray.toList_eq]
  by_cases h : bl s = l
  · rw [decide_eq_true h]
    exact beq_iff_eq.2 h
  · rw [decide_eq_false h]
    exact beq_eq_false_iff_ne.2 h

set_option maxHeartbeats 2000000 in
theorem raw_any (s : ByteArray) (w : World) :
    Calls Tryz.prog 50 #[.string s] w fun e w' => e = .returned (.tuple #[.bool (rawOf (bl s)).isSome, .bool ((rawOf (bl s)).getD false)]) ∧ w' = w := by
  have f0 := eq_lit s [115, 99, 114, 105, 112, 116]
  by_cases h0 : bl s = [115, 99, 114, 105, 112, 116]
  · rw [decide_eq_true h0] at f0
    have e : rawOf (bl s) = some false := by
      rw [h0]
      decide
    rw [e]
    clear e h0
    go_enter Tryz.func50, Tryz.ntmps50
    go_wp2
    go_ret2
    exact ⟨rfl, rfl⟩
  rw [decide_eq_false h0] at f0
  have f1 := eq_lit s [115, 116, 121, 108, 101]
  by_cases h1 : bl s = [115, 116, 121, 108, 101]
  · rw [decide_eq_true h1] at f1
    have e : rawOf (bl s) = some false := by
      rw [h1]
      decide
    rw [e]
    clear e h0 h1
    go_enter Tryz.func50, Tryz.ntmps50
    go_wp2
    go_ret2
    exact ⟨rfl, rfl⟩
  rw [decide_eq_false h1] at f1
  have f2 := eq_lit s [120, 109, 112]
  by_cases h2 : bl s = [120, 109, 112]
  · rw [decide_eq_true h2] at f2
    have e : rawOf (bl s) = some false := by
      rw [h2]
      decide
    rw [e]
    clear e h0 h1 h2
    go_enter Tryz.func50, Tryz.ntmps50
    go_wp2
    go_ret2
    exact ⟨rfl, rfl⟩
  rw [decide_eq_false h2] at f2
  have f3 := eq_lit s [105, 102, 114, 97, 109, 101]
  by_cases h3 : bl s = [105, 102, 114, 97, 109, 101]
  · rw [decide_eq_true h3] at f3
    have e : rawOf (bl s) = some false := by
      rw [h3]
      decide
    rw [e]
    clear e h0 h1 h2 h3
    go_enter Tryz.func50, Tryz.ntmps50
    go_wp2
    go_ret2
    exact ⟨rfl, rfl⟩
  rw [decide_eq_false h3] at f3
  have f4 := eq_lit s [110, 111, 101, 109, 98, 101, 100]
  by_cases h4 : bl s = [110, 111, 101, 109, 98, 101, 100]
  · rw [decide_eq_true h4] at f4
    have e : rawOf (bl s) = some false := by
      rw [h4]
      decide
    rw [e]
    clear e h0 h1 h2 h3 h4
    go_enter Tryz.func50, Tryz.ntmps50
    go_wp2
    go_ret2
    exact ⟨rfl, rfl⟩
  rw [decide_eq_false h4] at f4
  have f5 := eq_lit s [110, 111, 102, 114, 97, 109, 101, 115]
  by_cases h5 : bl s = [110, 111, 102, 114, 97, 109, 101, 115]
  · rw [decide_eq_true h5] at f5
    have e : rawOf (bl s) = some false := by
      rw [h5]
      decide
    rw [e]
    clear e h0 h1 h2 h3 h4 h5
    go_enter Tryz.func50, Tryz.ntmps50
    go_wp2
    go_ret2
    exact ⟨rfl, rfl⟩
  rw [decide_eq_false h5] at f5
  have f6 := eq_lit s [112, 108, 97, 105, 110, 116, 101, 120, 116]
  by_cases h6 : bl s = [112, 108, 97, 105, 110, 116, 101, 120, 116]
  · rw [decide_eq_true h6] at f6
    have e : rawOf (bl s) = some false := by
      rw [h6]
      decide
    rw [e]
    clear e h0 h1 h2 h3 h4 h5 h6
    go_enter Tryz.func50, Tryz.ntmps50
    go_wp2
    go_ret2
    exact ⟨rfl, rfl⟩
  rw [decide_eq_false h6] at f6
  have f7 := eq_lit s [116, 101, 120, 116, 97, 114, 101, 97]
  by_cases h7 : bl s = [116, 101, 120, 116, 97, 114, 101, 97]
  · rw [decide_eq_true h7] at f7
    have e : rawOf (bl s) = some true := by
      rw [h7]
      decide
    rw [e]
    clear e h0 h1 h2 h3 h4 h5 h6 h7
    go_enter Tryz.func50, Tryz.ntmps50
    go_wp2
    go_ret2
    exact ⟨rfl, rfl⟩
  rw [decide_eq_false h7] at f7
  have f8 := eq_lit s [116, 105, 116, 108, 101]
  by_cases h8 : bl s = [116, 105, 116, 108, 101]
  · rw [decide_eq_true h8] at f8
    have e : rawOf (bl s) = some true := by
      rw [h8]
      decide
    rw [e]
    clear e h0 h1 h2 h3 h4 h5 h6 h7 h8
    go_enter Tryz.func50, Tryz.ntmps50
    go_wp2
    go_ret2
    exact ⟨rfl, rfl⟩
  rw [decide_eq_false h8] at f8
  have e : rawOf (bl s) = none := by
    unfold rawOf raws
    simp only [lookR]
    rw [if_neg (Ne.symm h0), if_neg (Ne.symm h1), if_neg (Ne.symm h2), if_neg (Ne.symm h3), if_neg (Ne.symm h4), if_neg (Ne.symm h5), if_neg (Ne.symm h6), if_neg (Ne.symm h7), if_neg (Ne.symm h8)]
  rw [e]
  clear e h0 h1 h2 h3 h4 h5 h6 h7 h8
  go_enter Tryz.func50, Tryz.ntmps50
  go_wp2
  go_ret2
  exact ⟨rfl, rfl⟩

theorem clone_any (s : ByteArray) (w : World) (hs : s.size ≤ 281474976710656) :
    Calls Tryz.prog 23 #[.string s] w fun e w' => e = .returned (.string s) ∧ Below w.heap.size w w' := by
  have hc := Tryz.stringslite_Clone s w hs
  go_enter Tryz.func23, Tryz.ntmps23
  go_wp2_with fail
  refine hc.mono ?_
  rintro e w1 ⟨rfl, hb⟩
  go_wp2_with fail
  go_ret
  exact ⟨rfl, hb⟩
end Go.Proofs.YtholfdfjapgfbaaGreatDoor

/-
  What tok.rawLen answers.
-/
namespace Go.Proofs.YtholfdfjapgfbaaGreatDoor
open Go.RowKit
open Utf1

/-- The library's variable for the length of short texts holds something. -/
def GlobM (w : World) : Prop := ∃ m, w.cell? ⟨0, 0, none⟩ = some (.int .i64 m)
theorem GlobM.below {w w' : World} (h : GlobM w) (hb : Below w.heap.size w w') : GlobM w' := by
  obtain ⟨m, hc⟩ := h
  exact ⟨m, (hb.cell (p := ⟨0, 0, none⟩) (cell_lt hc)).trans hc⟩

theorem index_first (sub : List UInt8) (hs : sub ≠ []) (l : List UInt8) (h : 0 ≤ Lib.index l sub) : (Lib.index l sub).toNat < l.length ∧ sub.isPrefixOf (l.drop (Lib.index l sub).toNat) = true ∧ ∀ j, j < (Lib.index l sub).toNat → sub.isPrefixOf (l.drop j) = false := by
  induction l with
  | nil =>
    unfold Lib.index at h
    rw [if_neg (by simpa using hs)] at h
    omega
  | cons b t ih =>
    unfold Lib.index at h ⊢
    cases hp : sub.isPrefixOf (b :: t) with
    | true => simpa using hp
    | false =>
      rw [hp, if_neg (by simp)] at h
      rw [if_neg (by simp)]
      split at h
      · omega
      · rename_i hne
        have hne' : Lib.index t sub ≠ -1 := by simpa using hne
        have hge := Lib.index_ge t sub
        rw [if_neg hne]
        obtain ⟨h1, h2, h3⟩ := ih (by omega)
        have e : (Lib.index t sub + 1).toNat = (Lib.index t sub).toNat + 1 := by omega
        rw [e]
        refine ⟨by simp; omega, by simpa using h2, ?_⟩
        intro j hj
        cases j with
        | zero => exact hp
        | succ j => exact h3 j (by omega)
theorem index_never (sub : List UInt8) (hs : sub ≠ []) (l : List UInt8) (h : Lib.index l sub < 0) : ∀ j, sub.isPrefixOf (l.drop j) = false := by
  induction l with
  | nil =>
    intro j
    cases sub with
    | nil => exact absurd rfl hs
    | cons a r => simp
  | cons b t ih =>
    have hge := Lib.index_ge t sub
    unfold Lib.index at h
    cases hp : sub.isPrefixOf (b :: t) with
    | true =>
      rw [hp, if_pos rfl] at h
      omega
    | false =>
      rw [hp, if_neg (by simp)] at h
      intro j
      cases j with
      | zero => exact hp
      | succ j =>
        refine ih ?_ j
        split at h
        · rename_i he
          have : Lib.index t sub = -1 := by simpa using he
          omega
        · omega

theorem raw_skip (nm : List UInt8) : ∀ (k : Nat) (l : List UInt8), k ≤ l.length → (∀ j, j < k → rawEnds nm (l.drop j) = false) → rawStop nm l = k + rawStop nm (l.drop k)
  | 0, l, _, _ => by simp
  | k + 1, [], h, _ => by simp at h
  | k + 1, c :: t, h, hno => by
    have h0 : rawEnds nm (c :: t) = false := hno 0 (by omega)
    have := raw_skip nm k t (by simpa using h) (fun j hj => hno (j + 1) (by omega))
    rw [List.drop_succ_cons, rawStop, if_neg (by rw [h0]; simp), this]
    omega
theorem raw_pre (nm l : List UInt8) (h : [60, 47].isPrefixOf l = false) : rawEnds nm l = false := by
  unfold rawEnds
  rw [h]
  rfl
theorem raw_at (nm l : List UInt8) (h : [60, 47].isPrefixOf l = true) : rawEnds nm l = (decide (2 + nm.length < l.length) && decide (lower ((l.drop 2).take nm.length) = nm) && isNm (l.getD (2 + nm.length) 0)) := by
  unfold rawEnds
  rw [h]
  rfl
theorem set_nm1 (x : UInt8) : (bl ⟨#[9, 10, 12, 13, 32, 47, 62]⟩).contains x = isNm x := by
  show [9, 10, 12, 13, 32, 47, 62].contains x = _
  simp only [List.contains_cons, List.contains_nil, Bool.or_false, isNm, isBl, Bool.or_assoc]

set_option maxRecDepth 100000 in
set_option maxHeartbeats 8000000 in
theorem rawLen_any (s name : ByteArray) (w : World) (hs : s.size ≤ 4294967280) (hn : name.size ≤ 4294967280) (hg : GlobM w) :
    Calls Tryz.prog 51 #[.string s, .string name] w fun e w' => e = .returned (.int .i64 (rawLen (bl name) (bl s) : Int)) ∧ Below w.heap.size w w' := by
  have hl := bl_len s
  have hnl := bl_len name
  have fp := eq_lit name [112, 108, 97, 105, 110, 116, 101, 120, 116]
  by_cases hp : bl name = plainText
  · rw [show decide (bl name = [112, 108, 97, 105, 110, 116, 101, 120, 116]) = true from decide_eq_true hp] at fp
    have HR : Hid (rawLen (bl name) (bl s) = s.size) := hide (by
      unfold rawLen
      rw [if_pos hp, hl])
    rw [HR.out]
    clear hp HR hl hnl
    go_enter Tryz.func51, Tryz.ntmps51
    go_wp2
    go_ret
    exact ⟨rfl, Below.refl _ _⟩
  rw [show decide (bl name = [112, 108, 97, 105, 110, 116, 101, 120, 116]) = false from decide_eq_false hp] at fp
  have HR : Hid (rawLen (bl name) (bl s) = rawStop (bl name) (bl s)) := hide (by
    unfold rawLen
    rw [if_neg hp])
  rw [HR.out]
  clear hp HR
  have HG := hide hg
  clear hg
  go_enter Tryz.func51, Tryz.ntmps51
  go_wp2_with fail
  refine (oneOf_c _ _).mono ?_
  rintro e w1 ⟨rfl, hc1, -, hb1⟩
  have HB1 := hide hb1
  have HC1 := hide hc1
  have HG1 := hide (HG.out.below hb1)
  clear hb1 hc1 HG fp
  go_wp2_with fail
  go_loopg [6] s.size (fun g v wr => ∃ p : Nat, p + g = s.size ∧ v = .int .i64 (p : Int) ∧ Below w1.heap.size w1 wr ∧ Hid (rawStop (bl name) (bl s) = p + rawStop (bl name) ((bl s).drop p)))
  case atStart => exact ⟨0, by omega, rfl, Below.refl _ _, hide (by simp)⟩
  case round =>
    obtain ⟨p, hpg, rfl, hbw, HS⟩ := hrel
    obtain ⟨m, hm⟩ := HG1.out.below hbw
    have hix := Tryz.strings_Index (s.extract p s.size) ⟨#[60, 47]⟩ m wr (by simp; omega) hm
    have hbe : bl (s.extract p s.size) = (bl s).drop p := by rw [ext_drop]
    have hnev := index_never [60, 47] (by simp) ((bl s).drop p)
    have hfir := index_first [60, 47] (by simp) ((bl s).drop p)
    obtain ⟨k, hk⟩ : ∃ k, k = Lib.index ((bl s).drop p) [60, 47] := ⟨_, rfl⟩
    rw [← hk] at hnev hfir
    have hix : Calls Tryz.prog 66 #[.string (s.extract p s.size), .string ⟨#[60, 47]⟩] wr fun e w' => e = .returned (.int .i64 k) ∧ w' = wr := by
      rw [hk, ← hbe]
      exact hix
    have HBW := hide hbw
    clear hk hbe hm hbw
    by_cases hk0 : 0 ≤ k
    case neg =>
      have hkn : k < 0 := by omega
      have HF : Hid (rawStop (bl name) (bl s) = s.size) := hide (by
        rw [HS.out, raw_skip (bl name) (s.size - p) ((bl s).drop p) (by rw [List.length_drop, hl]; exact Nat.le_refl _) (fun j _ => raw_pre _ _ (hnev hkn j)), List.drop_of_length_le (by rw [List.length_drop, hl]; exact Nat.le_refl _)]
        simp [rawStop]
        omega)
      clear hnev hfir HS hk0
      go_wp2_with fail
      refine hix.mono ?_
      rintro e w2 ⟨rfl, rfl⟩
      go_wp2_with fail
      go_ret
      rw [HF.out]
      exact ⟨rfl, bel2 HB1.out HBW.out⟩
    obtain ⟨kn, rfl⟩ : ∃ kn : Nat, k = (kn : Int) := ⟨k.toNat, by omega⟩
    obtain ⟨h1, h2, h3⟩ := hfir hk0
    rw [Int.toNat_natCast] at h1 h2 h3
    rw [List.length_drop, hl] at h1
    rw [List.drop_drop] at h2
    have hst : rawStop (bl name) (bl s) = p + (kn + rawStop (bl name) ((bl s).drop (p + kn))) := by
      rw [HS.out, raw_skip (bl name) kn ((bl s).drop p) (by rw [List.length_drop, hl]; omega) (fun j hj => raw_pre _ _ (h3 j hj)), List.drop_drop]
    have hdc := drop_cons s (p + kn) (by omega)
    generalize (bl s)[p + kn]'(by rw [bl_len]; omega) = c at hdc
    have hat := raw_at (bl name) _ h2
    rw [List.length_drop, hl, hnl, List.drop_drop] at hat
    have HNX : rawEnds (bl name) ((bl s).drop (p + kn)) = false → Hid (rawStop (bl name) (bl s) = p + kn + 1 + rawStop (bl name) ((bl s).drop (p + kn + 1))) := fun h => hide (by
      rw [hst, hdc, rawStop, if_neg (by rw [← hdc, h]; simp)]
      omega)
    have HHT : rawEnds (bl name) ((bl s).drop (p + kn)) = true → Hid (rawStop (bl name) (bl s) = p + kn) := fun h => hide (by
      rw [hst, hdc, rawStop, if_pos (by rw [← hdc]; exact h)]
      omega)
    clear hnev hfir HS hk0 h2 h3 hst hdc
    by_cases hend : p + kn + 2 + name.size < s.size
    case neg =>
      have HN := HNX (by rw [hat, decide_eq_false (by omega)]; rfl)
      clear hat HNX HHT
      go_wp2_with fail
      refine hix.mono ?_
      rintro e w2 ⟨rfl, rfl⟩
      go_wp2_with fail
      go_roundg (gk - (kn + 1))
      case measure => omega
      case rel => exact ⟨p + kn + 1, by omega, by first | rfl | simp, HBW.out, HN⟩
    have hlo := fun w => lower_any (s.extract (p + kn + 2) (p + kn + 2 + name.size)) w
    have hbx : bl (s.extract (p + kn + 2) (p + kn + 2 + name.size)) = ((bl s).drop (p + kn + 2)).take name.size := by
      rw [extract_bl]
      congr 1
      omega
    rw [hbx] at hlo
    have hLb : bl ⟨(lower (((bl s).drop (p + kn + 2)).take name.size)).toArray⟩ = lower (((bl s).drop (p + kn + 2)).take name.size) := rfl
    generalize (⟨(lower (((bl s).drop (p + kn + 2)).take name.size)).toArray⟩ : ByteArray) = LW at hlo hLb
    rw [← hLb] at hat
    clear hbx hLb
    by_cases heq : bl LW = bl name
    case neg =>
      have HN := HNX (by rw [hat, decide_eq_false heq]; simp)
      have hq := beq_ne heq
      clear hat HNX HHT heq
      go_wp2_with fail
      refine hix.mono ?_
      rintro e w2 ⟨rfl, rfl⟩
      go_wp2_with fail
      refine (hlo _).mono ?_
      rintro e w3 ⟨rfl, hb3⟩
      go_wp2_with fail
      go_roundg (gk - (kn + 1))
      case measure => omega
      case rel => exact ⟨p + kn + 1, by omega, by first | rfl | simp, bel2 HBW.out hb3, HN⟩
    have hq := beq_same heq
    have hge : (bl s)[p + kn + 2 + name.size]? = some ((bl s)[p + kn + 2 + name.size]'(by rw [hl]; exact hend)) := List.getElem?_eq_getElem _
    have hgd : ((bl s).drop (p + kn)).getD (2 + name.size) 0 = (bl s)[p + kn + 2 + name.size]'(by rw [hl]; exact hend) := by
      rw [List.getD_eq_getElem?_getD, List.getElem?_drop, show p + kn + (2 + name.size) = p + kn + 2 + name.size by omega, hge]
      rfl
    rw [hgd] at hat
    clear hgd
    generalize (bl s)[p + kn + 2 + name.size]'(by rw [hl]; exact hend) = f at hat hge
    have ie0 := fun w => idxK hge w
    have hcl : ∀ w', Below w1.heap.size w1 w' → Calls Tryz.prog 63 #[.int .u8 (f.toNat : Int), .pointer (some ⟨w.heap.size, 0, none⟩)] w' fun e w'' => e = .returned (.bool (isNm f)) ∧ w'' = w' := by
      intro w' hb
      rw [← set_nm1]
      exact one1_any ⟨#[9, 10, 12, 13, 32, 47, 62]⟩ f w.heap.size w' ((hb.cell (p := ⟨w.heap.size, 0, none⟩) (cell_lt HC1.out)).trans HC1.out)
    rw [decide_eq_true (by omega), decide_eq_true heq] at hat
    have hat : rawEnds (bl name) ((bl s).drop (p + kn)) = isNm f := by rw [hat]; rfl
    obtain ⟨x, hx⟩ : ∃ x : Int, x = (f.toNat : Int) := ⟨_, rfl⟩
    have ie : ∀ w, (Instr.index 9 (.string s) (.int .i64 ((p : Int) + (kn : Int) + 2 + (name.size : Int)))).run Tryz.prog w = .ok (.int .u8 x) w := by
      rw [hx, show ((p : Int) + (kn : Int) + 2 + (name.size : Int)) = ((p + kn + 2 + name.size : Nat) : Int) by omega]
      exact ie0
    clear ie0
    rw [← hx] at hcl
    have HCL := hide hcl
    clear hx heq hge hcl
    cases hF : isNm f with
    | true =>
      have HN := HHT (by rw [hat, hF])
      rw [hF] at HCL
      clear hat HNX HHT hF
      go_wp2_with fail
      refine hix.mono ?_
      rintro e w2 ⟨rfl, rfl⟩
      go_wp2_with fail
      refine (hlo _).mono ?_
      rintro e w3 ⟨rfl, hb3⟩
      go_wp2_with fail
      refine (HCL.out _ (bel2 HBW.out hb3)).mono ?_
      rintro e w4 ⟨rfl, rfl⟩
      go_wp2_with fail
      go_ret
      rw [HN.out]
      exact ⟨by first | rfl | simp, bel2 HB1.out (bel2 HBW.out hb3)⟩
    | false =>
      have HN := HNX (by rw [hat, hF])
      rw [hF] at HCL
      clear hat HNX HHT hF
      go_wp2_with fail
      refine hix.mono ?_
      rintro e w2 ⟨rfl, rfl⟩
      go_wp2_with fail
      refine (hlo _).mono ?_
      rintro e w3 ⟨rfl, hb3⟩
      go_wp2_with fail
      refine (HCL.out _ (bel2 HBW.out hb3)).mono ?_
      rintro e w4 ⟨rfl, rfl⟩
      go_wp2_with fail
      go_roundg (gk - (kn + 1))
      case measure => omega
      case rel => exact ⟨p + kn + 1, by omega, by first | rfl | simp, bel2 HBW.out hb3, HN⟩
end Go.Proofs.YtholfdfjapgfbaaGreatDoor

/-
  Lists of tokens in memory.
-/
namespace Go.Proofs.YtholfdfjapgfbaaGreatDoor
open Go.RowKit
open Utf1

/-- A token's cells, its attributes' slice being given. -/
def tokCells (t : Tk) (av : Value) : List Value := [.int .i64 (t.kind : Int), .string ⟨t.name.toArray⟩, av, .bool t.closed, .string ⟨t.text.toArray⟩]
def toksCells : List (Tk × Value) → List Value
  | [] => []
  | p :: r => tokCells p.1 p.2 ++ toksCells r
theorem toksCells_len : ∀ l, (toksCells l).length = l.length * 5
  | [] => rfl
  | p :: r => by
    simp only [toksCells, List.length_append, toksCells_len r, tokCells, List.length_cons, List.length_nil]
    omega
theorem toksCells_app : ∀ a b, toksCells (a ++ b) = toksCells a ++ toksCells b
  | [], _ => rfl
  | p :: r, b => by
    simp only [toksCells, List.cons_append, toksCells_app r b, List.append_assoc]

/-- A slice holds tokens; each one's attributes lie in a row of their own kind. -/
def ToksAt (w : World) (base : Nat) (v : Value) (l : List (Tk × Value)) : Prop :=
  w.ownsRow base 35 5 v l.length (toksCells l) ∧ ∀ p ∈ l, w.ownsRow base 38 2 p.2 p.1.attrs.length (attrCells p.1.attrs)

theorem own_below {w w1 : World} {base : Nat} {e : TypeId} {size : Nat} {v : Value} {n : Nat} {xs : List Value} (h : w.ownsRow base e size v n xs) (hb : Below w.heap.size w w1) : w1.ownsRow base e size v n xs := by
  refine h.kept (below_grown hb) ?_
  cases hv : v.ownBlock with
  | none => exact .inl rfl
  | some g => exact .inr (by simp)
theorem own_base {w : World} {base base' : Nat} {e : TypeId} {size : Nat} {v : Value} {n : Nat} {xs : List Value} (h : w.ownsRow base e size v n xs) (hb : base' ≤ base) : w.ownsRow base' e size v n xs := by
  obtain ⟨h1, h2 | ⟨g, cap, cur, h3, h4, h5⟩⟩ := h
  · exact ⟨h1, .inl h2⟩
  · exact ⟨h1, .inr ⟨g, cap, cur, h3, by omega, h5⟩⟩
theorem ToksAt.below {w w1 : World} {base : Nat} {v : Value} {l : List (Tk × Value)} (h : ToksAt w base v l) (hb : Below w.heap.size w w1) : ToksAt w1 base v l :=
  ⟨own_below h.1 hb, fun p hp => own_below (h.2 p hp) hb⟩
theorem ToksAt.nil (w : World) (base : Nat) : ToksAt w base (.slice none 0 0) [] := ⟨World.ownsRow_nil _ _ _ _, fun p hp => by cases hp⟩

theorem own_two {w : World} {base base' : Nat} {e e' : TypeId} {size size' : Nat} {v v' : Value} {n n' : Nat} {xs xs' : List Value} (h : w.ownsRow base e size v n xs) (h' : w.ownsRow base' e' size' v' n' xs') (hne : e ≠ e') : v.ownBlock = none ∨ v.ownBlock ≠ v'.ownBlock := by
  obtain ⟨_, ⟨rfl, _⟩ | ⟨g', cap, cur, rfl, _, hg, _⟩⟩ := h'
  · cases hv : v.ownBlock with
    | none => exact .inl rfl
    | some g => exact .inr (by simp [Value.ownBlock])
  · exact .inr (own_apart h hg hne)

/-- One token more. -/
theorem ToksAt.more {w w1 : World} {base : Nat} {v v' av : Value} {l : List (Tk × Value)} {t : Tk} {o : Obj} (h : ToksAt w base v l) (ht : w.ownsRow base 38 2 av t.attrs.length (attrCells t.attrs))
    (hown : w1.ownsRow base 35 5 v' (l.length + 1) (toksCells l ++ tokCells t av)) (hgr : (w.alloc o).grownBy w1 v.ownBlock) : ToksAt w1 base v' (l ++ [(t, av)]) := by
  have hk : ∀ (t' : Tk) (a : Value), w.ownsRow base 38 2 a t'.attrs.length (attrCells t'.attrs) → w1.ownsRow base 38 2 a t'.attrs.length (attrCells t'.attrs) := fun t' a h' =>
    (h'.alloc o).kept hgr (own_two (h'.alloc o) (h.1.alloc o) (by decide))
  refine ⟨?_, ?_⟩
  · rw [toksCells_app, List.length_append]
    have e : toksCells [(t, av)] = tokCells t av := by simp [toksCells]
    rw [e]
    exact hown
  · intro p hp
    rcases List.mem_append.1 hp with hp | hp
    · exact hk _ _ (h.2 p hp)
    · have : p = (t, av) := by simpa using hp
      subst this
      exact hk _ _ ht

theorem infoTok : (Tryz.prog.info? 35).map (fun i => (i.zero, i.size, i.bytes)) = some (some (.agg #[.int .i64 0, .string ⟨#[]⟩, .slice none 0 0, .bool false, .string ⟨#[]⟩]), 5, 72) := by kernel_rfl

theorem five_new (w : World) (a b c d e : Value) (t : TypeId) : ∀ (j : Nat) (u : Value), [a, b, c, d, e][j]? = some u → (w.alloc (.cells #[a, b, c, d, e] t)).cell? ((⟨w.heap.size, 0, none⟩ : Addr).add j) = some u := by
  intro j u hj
  match j, hj with
  | 0, hj => simp at hj; subst hj; simp [Addr.add]
  | 1, hj => simp at hj; subst hj; simp [Addr.add]
  | 2, hj => simp at hj; subst hj; simp [Addr.add]
  | 3, hj => simp at hj; subst hj; simp [Addr.add]
  | 4, hj => simp at hj; subst hj; simp [Addr.add]
  | _ + 5, hj => simp at hj
theorem five_one (k : Int) (a : ByteArray) (p : Option Addr) (m c : Nat) (b : Bool) (d : ByteArray) : ∀ u ∈ [Value.int .i64 k, .string a, .slice p m c, .bool b, .string d], u.oneCell' = true := by
  intro u hu
  simp at hu
  rcases hu with rfl | rfl | rfl | rfl | rfl <;> rfl

theorem toksCells_at : ∀ (l : List (Tk × Value)) (i : Nat) (p : Tk × Value), l[i]? = some p → ∀ j, j < 5 → (toksCells l)[i * 5 + j]? = (tokCells p.1 p.2)[j]?
  | [], i, p, h, _, _ => by simp at h
  | q :: r, 0, p, h, j, hj => by
    have : q = p := by simpa using h
    subst this
    show (tokCells q.1 q.2 ++ toksCells r)[0 * 5 + j]? = _
    rw [show 0 * 5 + j = j by omega, List.getElem?_append_left (by simp [tokCells]; omega)]
  | q :: r, i + 1, p, h, j, hj => by
    have h' : r[i]? = some p := by simpa using h
    show (tokCells q.1 q.2 ++ toksCells r)[(i + 1) * 5 + j]? = _
    rw [List.getElem?_append_right (by simp [tokCells]; omega), show (i + 1) * 5 + j - (tokCells q.1 q.2).length = i * 5 + j by simp [tokCells]; omega]
    exact toksCells_at r i p h' j hj
theorem tok_at {w : World} {base g n cap : Nat} {l : List (Tk × Value)} (h : ToksAt w base (.slice (some ⟨g, 0, none⟩) n cap) l) (i : Nat) (p : Tk × Value) (hp : l[i]? = some p) (j : Nat) (hj : j < 5) : w.cell? ⟨g, i * 5 + j, none⟩ = (tokCells p.1 p.2)[j]? := by
  have hi : i < l.length := (List.getElem?_eq_some_iff.1 hp).1
  have hn : n = l.length := by
    obtain ⟨_, ⟨e, _⟩ | ⟨g', cap', cur, e, _⟩⟩ := h.1
    · cases e
    · cases e
      rfl
  subst hn
  rw [h.1.cellAt (i * 5 + j) (by omega), toksCells_at l i p hp j hj]
theorem toks_slice {w : World} {base : Nat} {v : Value} {l : List (Tk × Value)} (h : ToksAt w base v l) (hl : l ≠ []) : ∃ g cap, v = .slice (some ⟨g, 0, none⟩) l.length cap ∧ base ≤ g := by
  obtain ⟨_, ⟨_, e⟩ | ⟨g', cap', cur, e, hb, _⟩⟩ := h.1
  · exact absurd (List.length_eq_zero_iff.1 e) hl
  · exact ⟨g', cap', e, hb⟩
end Go.Proofs.YtholfdfjapgfbaaGreatDoor

/-
  What tok.withRaw answers.
-/
namespace Go.Proofs.YtholfdfjapgfbaaGreatDoor
open Go.RowKit
open Utf1

theorem five_newd (w : World) (a b c d e : Value) (t : TypeId) : ∀ (j : Nat) (u : Value), [a, b, c, d, e][j]? = some u → (w.alloc (.cells #[a, b, c, d, e] t)).drew.cell? ((⟨w.heap.size, 0, none⟩ : Addr).add j) = some u := fun j u h => five_new w a b c d e t j u h
theorem grown_drew {w w1 : World} {row : Option Nat} (h : w.drew.grownBy w1 row) : w.grownBy w1 row := ⟨h.os, h.tape, h.output, h.size, h.block⟩

set_option maxRecDepth 100000 in
set_option maxHeartbeats 8000000 in
theorem withRaw_any (s : ByteArray) (w : World) (base m cap g : Nat) (l : List (Tk × Value)) (t : Tk) (av : Value) (hm : m ≤ 4294967280) (hs : s.size ≤ 4294967280) (htn : t.name.length ≤ 4294967280) (hg : Glob w) (hgm : GlobM w) (hbase : base ≤ w.heap.size) (hl : l.length = m) (h : ToksAt w base (.slice (some ⟨g, 0, none⟩) (m + 1) cap) (l ++ [(t, av)])) :
    Calls Tryz.prog 25 #[.slice (some ⟨g, 0, none⟩) (m + 1) cap, .string s] w fun e w' => ∃ v', e = .returned (.tuple #[v', .string ⟨(withRaw t (bl s)).2.toArray⟩]) ∧ ∃ l', l'.map Prod.fst = (withRaw t (bl s)).1 ∧ ToksAt w' base v' (l ++ [(t, av)] ++ l') ∧ Below base w w' := by
  obtain ⟨ap, am, ac, rfl⟩ := own_slice (h.2 (t, av) (by simp))
  have hp : (l ++ [(t, .slice ap am ac)])[m]? = some (t, .slice ap am ac) := by
    rw [List.getElem?_append_right (by omega), hl]
    simp
  have c0 : w.cell? ⟨g, m * 5, none⟩ = some (.int .i64 (t.kind : Int)) := tok_at h m _ hp 0 (by decide)
  have c1 : w.cell? ⟨g, m * 5 + 1, none⟩ = some (.string ⟨t.name.toArray⟩) := tok_at h m _ hp 1 (by decide)
  have c2 : w.cell? ⟨g, m * 5 + 2, none⟩ = some (.slice ap am ac) := tok_at h m _ hp 2 (by decide)
  have c3 : w.cell? ⟨g, m * 5 + 3, none⟩ = some (.bool t.closed) := tok_at h m _ hp 3 (by decide)
  have c4 : w.cell? ⟨g, m * 5 + 4, none⟩ = some (.string ⟨t.text.toArray⟩) := tok_at h m _ hp 4 (by decide)
  obtain ⟨NM, hNM⟩ : ∃ NM : ByteArray, NM = ⟨t.name.toArray⟩ := ⟨_, rfl⟩
  obtain ⟨TX, hTX⟩ : ∃ TX : ByteArray, TX = ⟨t.text.toArray⟩ := ⟨_, rfl⟩
  rw [← hNM] at c1
  rw [← hTX] at c4
  have hbn : bl NM = t.name := by rw [hNM]
  have hNs : NM.size ≤ 4294967280 := by rw [← bl_len, hbn]; exact htn
  have hraw := fun w => raw_any NM w
  rw [hbn] at hraw
  have HTK := hide h
  have HBE : Hid (Below w.heap.size w (w.alloc (.cells #[.int .i64 (t.kind : Int), .string NM, .slice ap am ac, .bool t.closed, .string TX] 35))) := hide ((Below.refl _ _).alloc (Nat.le_refl _) _)
  have HNB := hide hbn
  clear h hp hNM hTX hbn htn
  by_cases hk : t.kind = 2
  case neg =>
    have hkz : ((t.kind : Int) != 2) = true := bne_iff_ne.2 (by omega)
    have e : withRaw t (bl s) = ([], bl s) := by
      unfold withRaw
      rw [if_neg hk]
    have HSAME : Hid ([] = (withRaw t (bl s)).1) := hide (by rw [e])
    rw [show (⟨(withRaw t (bl s)).2.toArray⟩ : ByteArray) = s by rw [e]]
    generalize (t.kind : Int) = kd at c0 hkz HBE
    clear e hk hg hgm
    go_enter Tryz.func25, Tryz.ntmps25
    go_wp2_with fail
    refine (hraw _).mono ?_
    rintro e w1 ⟨rfl, rfl⟩
    go_wp2_with fail
    go_ret2
    exact ⟨_, rfl, [], HSAME.out, by simpa using HTK.out.below (HBE.out), HBE.out.mono hbase⟩
  have hkz : ((t.kind : Int) != 2) = false := by rw [hk]; rfl
  have ew : withRaw t (bl s) = match rawOf t.name with
    | none => ([], bl s)
    | some b => if rawLen t.name (bl s) = 0 then ([], bl s) else ([⟨1, [], [], false, if b then res ((bl s).take (rawLen t.name (bl s))) else (bl s).take (rawLen t.name (bl s))⟩], (bl s).drop (rawLen t.name (bl s))) := by
    unfold withRaw
    rw [if_pos hk]
    cases rawOf t.name <;> rfl
  generalize (t.kind : Int) = kd at c0 hkz HBE
  cases hr : rawOf t.name with
  | none =>
    rw [hr] at ew hraw
    have HSAME : Hid ([] = (withRaw t (bl s)).1) := hide (by rw [ew])
    rw [show (⟨(withRaw t (bl s)).2.toArray⟩ : ByteArray) = s by rw [ew]]
    clear ew hk hg hgm hr
    go_enter Tryz.func25, Tryz.ntmps25
    go_wp2_with fail
    refine (hraw _).mono ?_
    rintro e w1 ⟨rfl, rfl⟩
    go_wp2_with fail
    go_ret2
    exact ⟨_, rfl, [], HSAME.out, by simpa using HTK.out.below (HBE.out), HBE.out.mono hbase⟩
  | some b =>
    rw [hr] at ew hraw
    have hrl := fun w hgm => rawLen_any s NM w hs hNs hgm
    rw [HNB.out] at hrl
    have HGM := hide (hgm.below HBE.out)
    have hle := rawLen_le t.name (bl s)
    rw [bl_len] at hle
    obtain ⟨n, hn⟩ : ∃ n, n = rawLen t.name (bl s) := ⟨_, rfl⟩
    rw [← hn] at hrl ew hle
    clear hn hk hr
    simp only at ew
    by_cases hn0 : n = 0
    · rw [if_pos hn0] at ew
      have HSAME : Hid ([] = (withRaw t (bl s)).1) := hide (by rw [ew])
      rw [show (⟨(withRaw t (bl s)).2.toArray⟩ : ByteArray) = s by rw [ew]]
      subst hn0
      clear ew hg hgm
      go_enter Tryz.func25, Tryz.ntmps25
      go_wp2_with fail
      refine (hraw _).mono ?_
      rintro e w1 ⟨rfl, rfl⟩
      go_wp2_with fail
      refine (hrl _ HGM.out).mono ?_
      rintro e w2 ⟨rfl, hb2⟩
      have HB2 := hide (bel2 HBE.out hb2)
      clear hb2 HBE
      go_wp2_with fail
      go_ret2
      exact ⟨_, rfl, [], HSAME.out, by simpa using HTK.out.below HB2.out, HB2.out.mono hbase⟩
    rw [if_neg hn0] at ew
    have hnz : ((n : Int) == 0) = false := beq_eq_false_iff_ne.2 (by omega)
    have HEX : Hid ((⟨(withRaw t (bl s)).2.toArray⟩ : ByteArray) = s.extract n s.size) := hide (by rw [ew, ext_drop])
    have hclo := fun w => clone_any (s.extract 0 n) w (by simp; omega)
    have hbx : bl (s.extract 0 n) = (bl s).take n := by rw [extract_take]
    have HGB : Hid (base ≤ g) := hide (by
      obtain ⟨g', cap', e, hb⟩ := toks_slice HTK.out (by simp)
      injection e with e1 e2 e3
      cases e1
      exact hb)
    obtain ⟨i0, hi, hz0, hz1, hz2⟩ := info_parts infoTok
    have hxs : (s.extract 0 n).size ≤ 4294967280 := by simp; omega
    have HG := hide hg
    clear hg hgm hn0
    cases b
    · have HT1 : Hid ([(⟨1, [], [], false, bl (s.extract 0 n)⟩ : Tk)] = (withRaw t (bl s)).1) := hide (by rw [ew, hbx]; rfl)
      clear ew hbx
      generalize hX : s.extract 0 n = X at hclo hxs HT1
      go_enter Tryz.func25, Tryz.ntmps25
      go_wp2_with fail
      refine (hraw _).mono ?_
      rintro e w1 ⟨rfl, rfl⟩
      go_wp2_with fail
      refine (hrl _ HGM.out).mono ?_
      rintro e w2 ⟨rfl, hb2⟩
      have HB2 := hide (bel2 HBE.out hb2)
      clear hb2 HBE
      go_wp2_with fail
      refine (hclo _).mono ?_
      rintro e w3 ⟨rfl, hb3⟩
      have HB3 := hide (bel2 HB2.out hb3)
      clear hb3 HB2
      go_wp2_with fail
      refine wp_region_any (by kernel_rfl) ?_
      try (change wpAny _ _ _ _ _ _ _ (World.drew _))
      refine wpAny_to (i := 0) (v := .slice (some ⟨g, 0, none⟩) (m + 1) cap) (a' := ?ap0) rfl (by kernel_rfl) (by kernel_rfl) (by kernel_rfl) (fun _ _ _ h => h) (Or.inl ⟨by rfl, ?yi⟩) ?ha ?_
      case yi => intro w; go_simp
      case ha => go_simp; exact rfl
      refine wpAny_to (i := 1) (v := .string X) (a' := ?ap1) rfl (by kernel_rfl) (by kernel_rfl) (by kernel_rfl) (fun _ _ _ h => h) (Or.inl ⟨by rfl, ?yi⟩) ?ha ?_
      case yi => intro w; go_simp
      case ha => go_simp; exact rfl
      refine wpAny_to (i := 2) (v := .agg #[.int .i64 1, .string ⟨#[]⟩, .slice none 0 0, .bool false, .string X]) (a' := ?ap2) rfl (by kernel_rfl) (by kernel_rfl) (by kernel_rfl) (fun _ _ _ h => h) (Or.inl ⟨by rfl, ?yi⟩) ?ha ?_
      case yi => intro w; go_simp
      case ha => go_simp; exact rfl
      refine wpAny_to (i := 5) (v := .string s) (a' := ?ap5) rfl (by kernel_rfl) (by kernel_rfl) (by kernel_rfl) (fun _ _ _ h => h) (Or.inl ⟨by rfl, ?yi⟩) ?ha ?_
      case yi => intro w; go_simp
      case ha => go_simp; exact rfl
      refine wpAny_to (i := 6) (v := .int .i64 (n : Int)) (a' := ?ap6) rfl (by kernel_rfl) (by kernel_rfl) (by kernel_rfl) (fun _ _ _ h => h) (Or.inl ⟨by rfl, ?yi⟩) ?ha ?_
      case yi => intro w; go_simp
      case ha => go_simp; exact rfl
      refine wpAny_to (i := 7) (v := .string (s.extract n s.size)) (a' := ?ap7) rfl (by kernel_rfl) (by kernel_rfl) (by kernel_rfl) (fun _ _ _ h => h) (Or.inl ⟨by rfl, ?yi⟩) ?ha ?_
      case yi => intro w; go_simp
      case ha => go_simp; exact rfl
      refine wpAny_ready (rs := [3]) (by kernel_rfl) (by simp) ?_
      refine AllReady.cons rfl (fun K hK => ?_) AllReady.nil
      go_simp
      go_wp2_with fail
      refine wpAny_ready (rs := [4]) (by kernel_rfl) (by simp) ?_
      refine AllReady.cons rfl (fun K hK => ?_) AllReady.nil
      rw [if_pos (by rfl)]
      refine wp_append_own _ (.tmp 47) (.tmp 50) 29 rfl base 35 i0 _ 5 72 Tryz.underlying29 hi hz0 hz1 hz2 rfl (by decide) (.slice (some ⟨g, 0, none⟩) (m + 1) cap) (l ++ [(t, Value.slice ap am ac)]).length (toksCells (l ++ [(t, Value.slice ap am ac)])) rfl ((HTK.out.below (HB3.out)).1.alloc _).drew ⟨w3.heap.size, 0, none⟩ 1 1 [.int .i64 1, .string ⟨#[]⟩, .slice none 0 0, .bool false, .string X] rfl rfl (five_newd w3 _ _ _ _ _ _) (five_one _ _ _ _ _ _ _) (by unfold maxLen; rw [List.length_append]; simp; omega) (by rw [List.length_append]; simp; omega) (by have := (HB3.out).size; simp; omega) ?_
      intro v' w5 hown5 hgr5 _
      obtain ⟨bp, bm, bc, rfl⟩ := own_slice hown5
      have hgr5 := grown_drew hgr5
      have HTM := hide (ToksAt.more (t := ⟨1, [], [], false, bl X⟩) (av := .slice none 0 0) (HTK.out.below (HB3.out)) (World.ownsRow_nil _ _ _ _) (by rw [show tokCells ⟨1, [], [], false, bl X⟩ (.slice none 0 0) = [.int .i64 1, .string ⟨#[]⟩, .slice none 0 0, .bool false, .string X] by unfold tokCells; rw [bl_eta]; rfl]; exact hown5) hgr5)
      have HBL : Hid (Below base w w5) := hide ((((HB3.out).alloc (HB3.out).size _).mono hbase).grown hgr5 (by have := (HB3.out).size; simp; omega) (fun j hj => by simp [Value.ownBlock] at hj; have := HGB.out; omega))
      clear hown5 hgr5
      refine hK _ _ ?_
      clear hK K
      refine wpAny_to (i := 8) (v := .slice bp bm bc) (a' := ?ap8) rfl (by kernel_rfl) (by kernel_rfl) (by kernel_rfl) (fun _ _ _ h => h) (Or.inl ⟨by rfl, ?yi⟩) ?ha ?_
      case yi => intro w; go_simp
      case ha => go_simp; exact rfl
      refine wpAny_to (i := 9) (v := .string (s.extract n s.size)) (a' := ?ap9) rfl (by kernel_rfl) (by kernel_rfl) (by kernel_rfl) (fun _ _ _ h => h) (Or.inl ⟨by rfl, ?yi⟩) ?ha ?_
      case yi => intro w; go_simp
      case ha => go_simp; exact rfl
      refine wpAny_done (by kernel_rfl) ?_ _
      go_wp2_with fail
      go_ret2
      rw [HEX.out]
      exact ⟨_, rfl, [(_, _)], HT1.out, HTM.out, HBL.out⟩
    · have hrv := fun w hg => resolve_any (s.extract 0 n) (by omega) w hg
      have hRb : bl ⟨(res (bl (s.extract 0 n))).toArray⟩ = res (bl (s.extract 0 n)) := rfl
      generalize (⟨(res (bl (s.extract 0 n))).toArray⟩ : ByteArray) = RV at hrv hRb
      have HT1 : Hid ([(⟨1, [], [], false, bl RV⟩ : Tk)] = (withRaw t (bl s)).1) := hide (by rw [ew, hRb, hbx]; rfl)
      clear ew hbx hRb
      generalize hX : s.extract 0 n = X at hclo hxs hrv
      go_enter Tryz.func25, Tryz.ntmps25
      go_wp2_with fail
      refine (hraw _).mono ?_
      rintro e w1 ⟨rfl, rfl⟩
      go_wp2_with fail
      refine (hrl _ HGM.out).mono ?_
      rintro e w2 ⟨rfl, hb2⟩
      have HB2 := hide (bel2 HBE.out hb2)
      clear hb2 HBE
      go_wp2_with fail
      refine (hclo _).mono ?_
      rintro e w3 ⟨rfl, hb3⟩
      have HB3 := hide (bel2 HB2.out hb3)
      clear hb3 HB2
      go_wp2_with fail
      refine (hrv _ (HG.out.below HB3.out)).mono ?_
      rintro e w4 ⟨rfl, hb4⟩
      have HB4 := hide (bel2 HB3.out hb4)
      clear hb4 HB3
      go_wp2_with fail
      refine wp_region_any (by kernel_rfl) ?_
      try (change wpAny _ _ _ _ _ _ _ (World.drew _))
      refine wpAny_to (i := 0) (v := .slice (some ⟨g, 0, none⟩) (m + 1) cap) (a' := ?aq0) rfl (by kernel_rfl) (by kernel_rfl) (by kernel_rfl) (fun _ _ _ h => h) (Or.inl ⟨by rfl, ?yi⟩) ?ha ?_
      case yi => intro w; go_simp
      case ha => go_simp; exact rfl
      refine wpAny_to (i := 1) (v := .string RV) (a' := ?aq1) rfl (by kernel_rfl) (by kernel_rfl) (by kernel_rfl) (fun _ _ _ h => h) (Or.inl ⟨by rfl, ?yi⟩) ?ha ?_
      case yi => intro w; go_simp
      case ha => go_simp; exact rfl
      refine wpAny_to (i := 2) (v := .agg #[.int .i64 1, .string ⟨#[]⟩, .slice none 0 0, .bool false, .string RV]) (a' := ?aq2) rfl (by kernel_rfl) (by kernel_rfl) (by kernel_rfl) (fun _ _ _ h => h) (Or.inl ⟨by rfl, ?yi⟩) ?ha ?_
      case yi => intro w; go_simp
      case ha => go_simp; exact rfl
      refine wpAny_to (i := 5) (v := .string s) (a' := ?aq5) rfl (by kernel_rfl) (by kernel_rfl) (by kernel_rfl) (fun _ _ _ h => h) (Or.inl ⟨by rfl, ?yi⟩) ?ha ?_
      case yi => intro w; go_simp
      case ha => go_simp; exact rfl
      refine wpAny_to (i := 6) (v := .int .i64 (n : Int)) (a' := ?aq6) rfl (by kernel_rfl) (by kernel_rfl) (by kernel_rfl) (fun _ _ _ h => h) (Or.inl ⟨by rfl, ?yi⟩) ?ha ?_
      case yi => intro w; go_simp
      case ha => go_simp; exact rfl
      refine wpAny_to (i := 7) (v := .string (s.extract n s.size)) (a' := ?aq7) rfl (by kernel_rfl) (by kernel_rfl) (by kernel_rfl) (fun _ _ _ h => h) (Or.inl ⟨by rfl, ?yi⟩) ?ha ?_
      case yi => intro w; go_simp
      case ha => go_simp; exact rfl
      refine wpAny_ready (rs := [3]) (by kernel_rfl) (by simp) ?_
      refine AllReady.cons rfl (fun K hK => ?_) AllReady.nil
      go_simp
      go_wp2_with fail
      refine wpAny_ready (rs := [4]) (by kernel_rfl) (by simp) ?_
      refine AllReady.cons rfl (fun K hK => ?_) AllReady.nil
      rw [if_pos (by rfl)]
      refine wp_append_own _ (.tmp 47) (.tmp 50) 29 rfl base 35 i0 _ 5 72 Tryz.underlying29 hi hz0 hz1 hz2 rfl (by decide) (.slice (some ⟨g, 0, none⟩) (m + 1) cap) (l ++ [(t, Value.slice ap am ac)]).length (toksCells (l ++ [(t, Value.slice ap am ac)])) rfl ((HTK.out.below (HB4.out)).1.alloc _).drew ⟨w4.heap.size, 0, none⟩ 1 1 [.int .i64 1, .string ⟨#[]⟩, .slice none 0 0, .bool false, .string RV] rfl rfl (five_newd w4 _ _ _ _ _ _) (five_one _ _ _ _ _ _ _) (by unfold maxLen; rw [List.length_append]; simp; omega) (by rw [List.length_append]; simp; omega) (by have := (HB4.out).size; simp; omega) ?_
      intro v' w5 hown5 hgr5 _
      obtain ⟨bp, bm, bc, rfl⟩ := own_slice hown5
      have hgr5 := grown_drew hgr5
      have HTM := hide (ToksAt.more (t := ⟨1, [], [], false, bl RV⟩) (av := .slice none 0 0) (HTK.out.below (HB4.out)) (World.ownsRow_nil _ _ _ _) (by rw [show tokCells ⟨1, [], [], false, bl RV⟩ (.slice none 0 0) = [.int .i64 1, .string ⟨#[]⟩, .slice none 0 0, .bool false, .string RV] by unfold tokCells; rw [bl_eta]; rfl]; exact hown5) hgr5)
      have HBL : Hid (Below base w w5) := hide ((((HB4.out).alloc (HB4.out).size _).mono hbase).grown hgr5 (by have := (HB4.out).size; simp; omega) (fun j hj => by simp [Value.ownBlock] at hj; have := HGB.out; omega))
      clear hown5 hgr5
      refine hK _ _ ?_
      clear hK K
      refine wpAny_to (i := 8) (v := .slice bp bm bc) (a' := ?aq8) rfl (by kernel_rfl) (by kernel_rfl) (by kernel_rfl) (fun _ _ _ h => h) (Or.inl ⟨by rfl, ?yi⟩) ?ha ?_
      case yi => intro w; go_simp
      case ha => go_simp; exact rfl
      refine wpAny_to (i := 9) (v := .string (s.extract n s.size)) (a' := ?aq9) rfl (by kernel_rfl) (by kernel_rfl) (by kernel_rfl) (fun _ _ _ h => h) (Or.inl ⟨by rfl, ?yi⟩) ?ha ?_
      case yi => intro w; go_simp
      case ha => go_simp; exact rfl
      refine wpAny_done (by kernel_rfl) ?_ _
      go_wp2_with fail
      go_ret2
      rw [HEX.out]
      exact ⟨_, rfl, [(_, _)], HT1.out, HTM.out, HBL.out⟩
end Go.Proofs.YtholfdfjapgfbaaGreatDoor

/-
  What tok.Tokens answers at every text.
-/
namespace Go.Proofs.YtholfdfjapgfbaaGreatDoor
open Go.RowKit
open Utf1

theorem bel_drewN (w : World) (n : Nat) : Below w.heap.size w (w.drewN n) := ⟨rfl, rfl, rfl, Nat.le_refl _, fun _ _ => rfl⟩

theorem withRaw_many (t : Tk) (r : List UInt8) : (withRaw t r).1.length + (withRaw t r).2.length ≤ r.length := by
  unfold withRaw
  split
  · split
    · simp
    · split
      · simp
      · rename_i h
        have := rawLen_le t.name r
        simp
        omega
  · simp

theorem cutE (s : ByteArray) (sep : ByteArray) (hs : s.size ≤ 4294967280) : ∃ A C : ByteArray, Hid (bl A = (Lib.cut (bl s) (bl sep)).1) ∧ Hid (bl C = (Lib.cut (bl s) (bl sep)).2.1) ∧ ∃ b : Bool, Hid (∀ w, GlobM w → Calls Tryz.prog 22 #[.string s, .string sep] w fun e w' => e = .returned (.tuple #[.string A, .string C, .bool b]) ∧ Below w.heap.size w w') := by
  refine ⟨⟨(Lib.cut (bl s) (bl sep)).1.toArray⟩, ⟨(Lib.cut (bl s) (bl sep)).2.1.toArray⟩, hide rfl, hide rfl, (Lib.cut (bl s) (bl sep)).2.2, hide ?_⟩
  rintro w ⟨m, hm⟩
  refine (Tryz.strings_Cut s sep m w (by omega) hm).mono ?_
  rintro e w' ⟨rfl, n, rfl⟩
  exact ⟨rfl, bel_drewN w n⟩

theorem ext_four (s : ByteArray) (k : Nat) : bl (s.extract k s.size) = (bl s).drop k := by rw [ext_drop]

/-- One token that is laid without attributes. -/
theorem ToksAt.plain {w w1 : World} {base : Nat} {v v' : Value} {l : List (Tk × Value)} {o : Obj} (k : Nat) (X : ByteArray) (h : ToksAt w base v l)
    (hown : w1.ownsRow base 35 5 v' (l.length + 1) (toksCells l ++ [.int .i64 (k : Int), .string ⟨#[]⟩, .slice none 0 0, .bool false, .string X])) (hgr : (w.alloc o).grownBy w1 v.ownBlock) : ToksAt w1 base v' (l ++ [(⟨k, [], [], false, bl X⟩, .slice none 0 0)]) := by
  refine ToksAt.more h (World.ownsRow_nil _ _ _ _) ?_ hgr
  rw [show tokCells ⟨k, [], [], false, bl X⟩ (.slice none 0 0) = [.int .i64 (k : Int), .string ⟨#[]⟩, .slice none 0 0, .bool false, .string X] by unfold tokCells; rw [bl_eta]]
  exact hown
theorem bel_more {w0 w w1 : World} {base : Nat} {v : Value} {l : List (Tk × Value)} {o : Obj} (h : ToksAt w base v l) (hb : Below base w0 w) (hs : base ≤ w.heap.size) (hgr : (w.alloc o).grownBy w1 v.ownBlock) : Below base w0 w1 :=
  (hb.alloc hs o).grown hgr (by simp; omega) (fun j hj => (h.1.lt j hj).1)

theorem five_new2 (w : World) (o : Obj) (a b c d e : Value) (t : TypeId) : ∀ (j : Nat) (u : Value), [a, b, c, d, e][j]? = some u → ((w.alloc o).alloc (.cells #[a, b, c, d, e] t)).cell? ((⟨w.heap.size + 1, 0, none⟩ : Addr).add j) = some u := by
  intro j u h
  have := five_new (w.alloc o) a b c d e t j u h
  rw [show (w.alloc o).heap.size = w.heap.size + 1 by simp] at this
  exact this
theorem beg_four {l : List UInt8} (h : beg l = 1) : 4 ≤ l.length := by
  cases l with
  | nil => cases h
  | cons c t =>
    by_cases hc : c = 60
    · subst hc
      rw [beg_lt] at h
      cases t with
      | nil => cases h
      | cons d u =>
        by_cases hp : [33, 45, 45].isPrefixOf (d :: u) = true
        · have := (List.isPrefixOf_iff_prefix.1 hp).length_le
          simp at this ⊢
          omega
        · exfalso
          unfold beg1 at h
          simp only at h
          rw [if_neg hp] at h
          split at h
          · omega
          · split at h
            · omega
            · split at h
              · omega
              · unfold beg2 at h
                split at h
                · omega
                · split at h <;> omega
    · rw [beg_ne t hc] at h
      cases h
theorem tag_name_len {l r : List UInt8} {t : Tk} (h : tagOf l = some (t, r)) : t.name.length ≤ l.length := by
  have h3 : (tagBody l).length ≤ l.length := by
    unfold tagBody
    split <;> (rw [List.length_drop]; omega)
  have h4 : ((tagBody l).takeWhile (fun x => !isNm x)).length ≤ (tagBody l).length := by
    have := congrArg List.length (List.takeWhile_append_dropWhile (p := fun x => !isNm x) (l := tagBody l))
    rw [List.length_append] at this
    omega
  have e : t.name = lower ((tagBody l).takeWhile (fun x => !isNm x)) := by
    unfold tagOf at h
    split at h
    · cases h
    · injection h with h
      injection h with h1 h2
      rw [← h1]
      split <;> rfl
  rw [e]
  unfold lower
  rw [List.length_map]
  omega

set_option maxRecDepth 100000 in
set_option maxHeartbeats 16000000 in
theorem tokens_any (s : ByteArray) (w : World) (hs : s.size ≤ 4294967280) (hg : Glob w) (hgm : GlobM w) :
    Calls Tryz.prog 9 #[.string s] w fun e w' => ∃ v l, e = .returned v ∧ l.map Prod.fst = toks (bl s) ∧ ToksAt w' w.heap.size v l ∧ Below w.heap.size w w' := by
  obtain ⟨i0, hi, hz0, hz1, hz2⟩ := info_parts infoTok
  have HG := hide (And.intro hg hgm)
  clear hg hgm
  go_enter Tryz.func9, Tryz.ntmps9
  go_wp2
  go_loopg [0, 3] s.size (fun q v0 v3 wr => ∃ (r : ByteArray) (l : List (Tk × Value)), v0 = .string r ∧ r.size = q ∧ l.length + r.size ≤ s.size ∧ ToksAt wr w.heap.size v3 l ∧ Below w.heap.size w wr ∧ Hid (l.map Prod.fst ++ toks (bl r) = toks (bl s)))
  case atStart => exact ⟨s, [], rfl, rfl, by simp, ToksAt.nil _ _, Below.refl _ _, hide rfl⟩
  case round =>
    obtain ⟨r, l, rfl, rfl, hlr, htk, hbw, HA⟩ := hrel
    have hsl := own_slice htk.1
    obtain ⟨ap, am, ac, rfl⟩ := hsl
    have HTK := hide htk
    have HBW := hide hbw
    have hsz : w.heap.size ≤ wr.heap.size := hbw.size
    have HG1 : Hid (Glob wr ∧ GlobM wr) := hide ⟨HG.out.1.below hbw, HG.out.2.below hbw⟩
    clear htk hbw
    rcases hb : bl r with _ | ⟨c, t⟩
    · have hE := empty_of hb
      have HF : Hid (l.map Prod.fst = toks (bl s)) := hide (by rw [← HA.out, hb, toks_nil, List.append_nil])
      clear HA hb
      go_wp2_with fail
      go_ret
      exact ⟨_, l, rfl, HF.out, HTK.out, HBW.out⟩
    have hE := nonempty_of hb
    have hr1 : 1 ≤ r.size := by rw [← bl_len, hb]; simp
    have hbg := fun w => begins_any r w hr1
    have h3 := beg_le (bl r)
    obtain ⟨b, hbb⟩ : ∃ b, b = beg (bl r) := ⟨_, rfl⟩
    rw [← hbb] at hbg h3
    rcases (show b = 1 ∨ b = 2 ∨ b = 3 ∨ b = 0 by omega) with rfl | rfl | rfl | rfl
    · -- a note
      have hr4 : 4 ≤ r.size := by
        rw [← bl_len]
        exact beg_four hbb.symm
      have h4s : (r.extract 4 r.size).size = r.size - 4 := by simp
      obtain ⟨A, C, HA1, HC1, bo, HCUT⟩ := cutE (r.extract 4 r.size) ⟨#[45, 45, 62]⟩ (by omega)
      rw [ext_four] at HA1 HC1
      have hcl := cut_len1 ((bl r).drop 4) [45, 45, 62]
      have hc2 := cut_len ((bl r).drop 4) [45, 45, 62] (by decide)
      rw [List.length_drop, bl_len] at hcl hc2
      have hAs : A.size ≤ 4294967280 := by
        rw [← bl_len, HA1.out]
        exact Nat.le_trans hcl (by omega)
      have hCs : C.size ≤ r.size - 4 - 1 := by
        rw [← bl_len, HC1.out]
        exact hc2
      have HN : Hid ((l.map Prod.fst ++ [⟨4, [], [], false, bl A⟩]) ++ toks (bl C) = toks (bl s)) := hide (by
        rw [← HA.out, toks_note (bl r) hbb.symm, HA1.out, HC1.out, List.append_assoc]
        simp only [List.cons_append, List.nil_append])
      have hclo := fun w => clone_any A w (by omega)
      clear HA hb hbb h3 hcl hc2 HA1 HC1
      go_wp2_with fail
      refine (hbg _).mono ?_
      rintro e w1 ⟨rfl, rfl⟩
      go_wp2_with fail
      refine (HCUT.out _ HG1.out.2).mono ?_
      rintro e w2 ⟨rfl, hb2⟩
      go_wp2_with fail
      refine (hclo _).mono ?_
      rintro e w3 ⟨rfl, hb3⟩
      have hb13 := bel2 hb2 hb3
      have HT3 := hide (HTK.out.below hb13)
      have HB3 := hide (HBW.out.trans (hb13.mono hsz))
      have hs3 : w.heap.size ≤ w3.heap.size := Nat.le_trans hsz hb13.size
      clear hb2 hb3 hb13
      go_wp2_with (at_builtin; refine wpList_append_own _ rfl _ _ 29 rfl w.heap.size 35 i0 _ 5 72 Tryz.underlying29 hi hz0 hz1 hz2 rfl (by decide) (.slice ap am ac) l.length (toksCells l) rfl (HT3.out.1.alloc _) ⟨w3.heap.size, 0, none⟩ 1 1 [.int .i64 4, .string ⟨#[]⟩, .slice none 0 0, .bool false, .string A] rfl rfl (five_new w3 _ _ _ _ _ _) (five_one _ _ _ _ _ _ _) (by unfold maxLen; omega) (by omega) (by simp; omega) ?_)
      intro v' w5 hown5 hgr5 _
      obtain ⟨bp, bm, bc, rfl⟩ := own_slice hown5
      have HT5 := hide (ToksAt.plain 4 A HT3.out hown5 hgr5)
      have HB5 := hide (bel_more HT3.out HB3.out hs3 hgr5)
      clear hown5 hgr5
      go_wp2_with fail
      go_roundg C.size
      case measure => omega
      case rel => exact ⟨C, _, rfl, rfl, by rw [List.length_append]; simp; omega, HT5.out, HB5.out, by rw [List.map_append]; exact HN⟩
    · obtain ⟨A, C, HA1, HC1, bo, HCUT⟩ := cutE r ⟨#[62]⟩ (by omega)
      have hc2 := cut_len (bl r) [62] (by decide)
      rw [bl_len] at hc2
      have hCs : C.size ≤ r.size - 1 := by
        rw [← bl_len, HC1.out]
        exact hc2
      have HN : Hid (l.map Prod.fst ++ toks (bl C) = toks (bl s)) := hide (by
        rw [← HA.out, toks_none (bl r) hbb.symm, HC1.out])
      clear HA hb hbb h3 hc2 HA1 HC1
      go_wp2_with fail
      refine (hbg _).mono ?_
      rintro e w1 ⟨rfl, rfl⟩
      go_wp2_with fail
      refine (HCUT.out _ HG1.out.2).mono ?_
      rintro e w2 ⟨rfl, hb2⟩
      have HT3 := hide (HTK.out.below hb2)
      have HB3 := hide (HBW.out.trans (hb2.mono hsz))
      clear hb2
      go_wp2_with fail
      go_roundg C.size
      case measure => omega
      case rel => exact ⟨C, l, rfl, rfl, by omega, HT3.out, HB3.out, HN⟩
    · have hrt := readTag_any r wr HG1.out.1 (by omega) hbb.symm
      cases htg : tagOf (bl r) with
      | none =>
        rw [htg] at hrt
        have HF : Hid (l.map Prod.fst = toks (bl s)) := hide (by rw [← HA.out, toks_cutoff _ hbb.symm htg, List.append_nil])
        clear HA hb hbb h3 htg
        go_wp2_with fail
        refine (hbg _).mono ?_
        rintro e w1 ⟨rfl, rfl⟩
        go_wp2_with fail
        refine hrt.mono ?_
        rintro e w2 ⟨rfl, hb2⟩
        have HT3 := hide (HTK.out.below hb2)
        have HB3 := hide (HBW.out.trans (hb2.mono hsz))
        have hs3 : w.heap.size ≤ w2.heap.size := Nat.le_trans hsz hb2.size
        clear hb2 hrt
        go_wp2_with fail
        go_ret
        exact ⟨_, l, rfl, HF.out, HT3.out.below ((Below.refl _ _).alloc (Nat.le_refl _) _), HB3.out.alloc hs3 _⟩
      | some pr =>
        obtain ⟨tk, r2⟩ := pr
        rw [htg] at hrt
        have hr2 := tagOf_len htg
        rw [bl_len] at hr2
        have hnm := tag_name_len htg
        rw [bl_len] at hnm
        have hmany := withRaw_many tk r2
        have HN : Hid (∀ (l' : List (Tk × Value)) (av : Value), l'.map Prod.fst = (withRaw tk r2).1 → (l ++ [(tk, av)] ++ l').map Prod.fst ++ toks (withRaw tk r2).2 = toks (bl s)) := hide (by
          intro l' av h
          rw [← HA.out, toks_tag _ r2 tk hbb.symm htg, List.map_append, List.map_append, h, List.append_assoc, List.append_assoc]
          simp only [List.map_cons, List.map_nil, List.cons_append, List.nil_append])
        clear HA hb hbb h3 htg
        go_wp2_with fail
        refine (hbg _).mono ?_
        rintro e w1 ⟨rfl, rfl⟩
        go_wp2_with fail
        refine hrt.mono ?_
        rintro e w2 ⟨av, rfl, hav0, hb2⟩
        have hav := own_base hav0 hsz
        obtain ⟨vp, vm, vc, rfl⟩ := own_slice hav
        have HAV := hide hav
        have HT3 := hide (HTK.out.below hb2)
        have HB3 := hide (HBW.out.trans (hb2.mono hsz))
        have hs3 : w.heap.size ≤ w2.heap.size := Nat.le_trans hsz hb2.size
        have HTC : Hid (tokCells tk (.slice vp vm vc) = [.int .i64 (tk.kind : Int), .string ⟨tk.name.toArray⟩, .slice vp vm vc, .bool tk.closed, .string ⟨tk.text.toArray⟩]) := hide rfl
        clear hb2 hrt hav hav0
        generalize (⟨tk.name.toArray⟩ : ByteArray) = NM at HTC ⊢
        generalize (⟨tk.text.toArray⟩ : ByteArray) = TX at HTC ⊢
        generalize (tk.kind : Int) = kd at HTC ⊢
        generalize hR2 : (⟨r2.toArray⟩ : ByteArray) = R2
        have HR2 : Hid (bl R2 = r2) := hide (by rw [← hR2])
        clear hR2
        go_wp2_with (at_builtin; refine wpList_append_own _ rfl _ _ 29 rfl w.heap.size 35 i0 _ 5 72 Tryz.underlying29 hi hz0 hz1 hz2 rfl (by decide) (.slice ap am ac) l.length (toksCells l) rfl ((HT3.out.1.alloc _).alloc _) ⟨w2.heap.size + 1, 0, none⟩ 1 1 [.int .i64 kd, .string NM, .slice vp vm vc, .bool tk.closed, .string TX] rfl rfl (five_new2 w2 _ _ _ _ _ _ _) (five_one _ _ _ _ _ _ _) (by unfold maxLen; omega) (by omega) (by simp; omega) ?_)
        intro v' w5 hown5 hgr5 _
        have HT4 := HT3.out.below ((Below.refl _ _).alloc (Nat.le_refl _) (.cells #[.int .i64 kd, .string NM, .slice vp vm vc, .bool tk.closed, .string TX] 35))
        have HT5 := ToksAt.more HT4 (HAV.out.alloc _) (by rw [HTC.out]; exact hown5) hgr5
        have HB5 := bel_more HT4 (HB3.out.alloc hs3 _) (by simp; omega) hgr5
        obtain ⟨g, cap, hv, hgb⟩ := toks_slice HT5 (by simp)
        rw [List.length_append, List.length_cons, List.length_nil] at hv
        subst hv
        have hwr := withRaw_any R2 w5 w.heap.size l.length cap g l tk (.slice vp vm vc) (by omega) (by rw [← bl_len, HR2.out]; omega) (by omega) (HG.out.1.below HB5) (HG.out.2.below HB5) HB5.size rfl HT5
        rw [HR2.out] at hwr
        have hWs : (⟨(withRaw tk r2).2.toArray⟩ : ByteArray).size = (withRaw tk r2).2.length := size_mk _
        have HWb : Hid (bl ⟨(withRaw tk r2).2.toArray⟩ = (withRaw tk r2).2) := hide rfl
        generalize (⟨(withRaw tk r2).2.toArray⟩ : ByteArray) = WR at hwr hWs HWb
        have HB5 := hide HB5
        clear hown5 hgr5 HT4 HT5
        go_wp2_with fail
        refine hwr.mono ?_
        rintro e w6 ⟨v6, rfl, l', hl', HT6, hb6⟩
        obtain ⟨qp, qm, qc, rfl⟩ := own_slice HT6.1
        have hll := congrArg List.length hl'
        rw [List.length_map] at hll
        have HN2 := hide (HN.out l' (.slice vp vm vc) hl')
        have HT6 := hide HT6
        have HB6 := hide (HB5.out.trans hb6)
        clear hwr hl' hb6 HN
        go_wp2_with fail
        go_roundg WR.size
        case measure => omega
        case rel =>
          refine ⟨WR, _, rfl, rfl, ?_, HT6.out, HB6.out, hide ?_⟩
          · rw [List.length_append, List.length_append]
            simp
            omega
          · rw [HWb.out]
            exact HN2.out
    · have htl := textLen_any r wr hr1 (by omega) hbb.symm
      have hsp : 1 ≤ stop (bl r) := by
        rw [hb]
        exact stop_pos c t (by rw [← hb, ← hbb])
      have hsl2 := stop_le (bl r)
      rw [bl_len] at hsl2
      have htx := toks_text (bl r) (by rw [hb]; simp) hbb.symm
      obtain ⟨n, hn⟩ : ∃ n, n = stop (bl r) := ⟨_, rfl⟩
      rw [← hn] at htl hsp hsl2 htx
      have hrv := fun w hg => resolve_any (r.extract 0 n) (by simp; omega) w hg
      have hbx : bl (r.extract 0 n) = (bl r).take n := by rw [extract_take]
      have hRb : bl ⟨(res (bl (r.extract 0 n))).toArray⟩ = res (bl (r.extract 0 n)) := rfl
      generalize (⟨(res (bl (r.extract 0 n))).toArray⟩ : ByteArray) = RV at hrv hRb
      have hCs : (r.extract n r.size).size = r.size - n := by simp
      have HN : Hid ((l.map Prod.fst ++ [⟨1, [], [], false, bl RV⟩]) ++ toks (bl (r.extract n r.size)) = toks (bl s)) := hide (by
        rw [← HA.out, htx, hRb, hbx, ext_four, List.append_assoc]
        simp only [List.cons_append, List.nil_append])
      clear HA hb hbb h3 hn htx hbx hRb
      go_wp2_with fail
      refine (hbg _).mono ?_
      rintro e w1 ⟨rfl, rfl⟩
      go_wp2_with fail
      refine htl.mono ?_
      rintro e w2 ⟨rfl, hb2⟩
      go_wp2_with fail
      refine (hrv _ (HG1.out.1.below hb2)).mono ?_
      rintro e w3 ⟨rfl, hb3⟩
      have hb13 := bel2 hb2 hb3
      have HT3 := hide (HTK.out.below hb13)
      have HB3 := hide (HBW.out.trans (hb13.mono hsz))
      have hs3 : w.heap.size ≤ w3.heap.size := Nat.le_trans hsz hb13.size
      clear hb2 hb3 hb13 htl
      go_wp2_with (at_builtin; refine wpList_append_own _ rfl _ _ 29 rfl w.heap.size 35 i0 _ 5 72 Tryz.underlying29 hi hz0 hz1 hz2 rfl (by decide) (.slice ap am ac) l.length (toksCells l) rfl (HT3.out.1.alloc _) ⟨w3.heap.size, 0, none⟩ 1 1 [.int .i64 1, .string ⟨#[]⟩, .slice none 0 0, .bool false, .string RV] rfl rfl (five_new w3 _ _ _ _ _ _) (five_one _ _ _ _ _ _ _) (by unfold maxLen; omega) (by omega) (by simp; omega) ?_)
      intro v' w5 hown5 hgr5 _
      obtain ⟨bp, bm, bc, rfl⟩ := own_slice hown5
      have HT5 := hide (ToksAt.plain 1 RV HT3.out hown5 hgr5)
      have HB5 := hide (bel_more HT3.out HB3.out hs3 hgr5)
      clear hown5 hgr5
      go_wp2_with fail
      go_roundg (r.extract n r.size).size
      case measure => omega
      case rel => exact ⟨r.extract n r.size, _, rfl, rfl, by rw [List.length_append]; simp; omega, HT5.out, HB5.out, by rw [List.map_append]; exact HN⟩
end Go.Proofs.YtholfdfjapgfbaaGreatDoor

/-
  The tokens' texts, all of them.
-/

/-
  What the listed variables and the world's shape give a walk: the library's variable for a wrong spelling holds something, the greatest length for a search some number.
-/
namespace Go.Proofs.YtholfdfjapgfbaaGreatDoor
open Go.ChangeShapes Go.WideShapes Go.ChangeAt Go.RowKit

theorem row_own : ownKnob Tryz.prog.godebug = none := by kernel_rfl
def laidAll : List (String × DataW Unit) := [("math/bits.deBruijn32tab", Rows.laid_math_bits_deBruijn32tab), ("math/bits.deBruijn64tab", Rows.laid_math_bits_deBruijn64tab), ("internal/strconv.uint64pow10", Rows.laid_internal_strconv_uint64pow10), ("strconv.ErrRange", Rows.laid_strconv_ErrRange), ("strconv.ErrSyntax", Rows.laid_strconv_ErrSyntax)]
theorem gES : Tryz.prog.globalNamed "strconv.ErrSyntax" = some 1 := by kernel_rfl
theorem gESType : (Tryz.prog.globals[1]?).map (·.type) = some 92 := by kernel_rfl
theorem cellsE : Tryz.prog.cellsOf 131 = 1 := by kernel_rfl
theorem cellsS : Tryz.prog.cellsOf 9 = 1 := by kernel_rfl
theorem es_star : "*" ++ "errors.errorString" = "*errors.errorString" := by decide
theorem es_row (u : TypeId) (h : Tryz.prog.typeName? 3 u = some "*errors.errorString") : u = 129 :=
  typeName_ptr_named (nm := "errors.errorString") (by rw [es_star]; kernel_rfl) (by kernel_rfl) (by decide) u (by rw [es_star]; exact h)

theorem door_met (os : Os) (args : Array Value) : laidMetH Tryz.prog laidAll ((World.doorLaid Tryz.prog 400 os).forCall (fun _ _ => 0) ⟨#[], args, []⟩).memory :=
  laidMetH_of_parts3 (fuel := 8) (laidMet_of_run' 8 (by kernel_rfl) (by kernel_rfl)) (by kernel_rfl) (by kernel_rfl)

theorem glob_of_laid {W : World} (h : laidMetH Tryz.prog laidAll W) : Glob W := by
  rw [MakeChecks.laidMetH_plain _ _ _ (by kernel_rfl)] at h
  have h5 := h.tail.tail.tail.tail
  obtain ⟨a0, s0, hv0, -, -, -⟩ := laid_sentinel h5 gES gESType Tryz.underlying92 es_row Tryz.underlying129 Tryz.underlying131 rfl rfl Tryz.underlying9 cellsE cellsS
  have h0 := World.var?_cell gES hv0 0
  exact ⟨_, _, by simpa using h0⟩

theorem globM_of_shape {W : World} (h : W.ShapedOpen Tryz.prog) : GlobM W :=
  cell_of_shapedOpen_int (g := 0) (t := 3) (zero := #[.int .i64 0]) (k := .i64) h (by decide +kernel) (by kernel_rfl) rfl (by kernel_rfl) (by kernel_rfl) Tryz.underlying3

/-- The row's frame with listed variables, the world's shape handed on. -/
theorem handed_laid_shaped {H : Type} {enc : TypeId × Value → H} {a : Assume} {C : Checked} {os : Os} {f : FuncId} {fn : Func} {s : ChangeSpec} {conds : List PathCond} {apart fresh handsOn again : Bool} {X : World → Array Value → Prop}
    (hX : ∀ (w w' : World) (args : Array Value), w.heap = w'.heap → X w args → X w' args)
    (own : ownKnob C.prog.godebug = none) (started : os.Started) (noInit : C.prog.inits.idxOf? f = none) (hfn : C.prog.funcs[f]? = some fn)
    (witness : ∃ (w : World) (tape : Tape) (i : Input), w.os = os ∧ (w.forCall tape i).Shaped C.prog ∧ i.vars = [] ∧ Input.okWide C.prog (w.forCall tape i) .any w.heap.size f i ∧
      ((s.pre enc C.prog fn conds apart (w.forCall tape i).memory i.args ∧ X (w.forCall tape i).memory i.args) ∧ sizedMet enc C.prog fn (OpenSpec.ofChange s) apart (w.forCall tape i).memory i.args) ∧ a.holds C.prog (lone (Frame.enter C.prog f i.args .normal) [] (w.forCall tape i)))
    (contract : ∀ (W : World) (base : Nat) (args : Array Value) (ds gs : List (DataW H)) (before : List MemPlace),
      (∀ (j : Nat) t v, fn.params[j]? = some t → args[j]? = some v → Value.okWide C.prog W .any base t v) →
      DataW.Whole enc C.prog fn.params.toList s.vars apart W args.toList ds gs before →
      X W args → W.ShapedOpen C.prog →
      Calls C.prog f args W fun e W' => ∃ v, e = .returned v ∧ s.post enc C.prog fn apart fresh handsOn again W args v W') :
    ReturnsInHanded a C os f .any (fun w args => (s.pre enc C.prog fn conds apart w args ∧ X w args) ∧ sizedMet enc C.prog fn (OpenSpec.ofChange s) apart w args) (s.post enc C.prog fn apart fresh handsOn again) := by
  refine returnsInHanded_of_calls own started noInit witness ?_
  intro w tape i _ hsh _ hok hpre hholds
  obtain ⟨_, _, _, fn', hfn', _, _, _, _, hval⟩ := hok
  have e : fn' = fn := Option.some.inj (hfn'.symm.trans hfn)
  subst e
  obtain ⟨⟨⟨ds, gs, before, hw, hc⟩, hx⟩, hz⟩ := hpre
  have hw' := DataW.Whole.of_heap (w' := w.forCall tape i) (by rfl) hw
  refine (contract (w.forCall tape i) w.heap.size i.args ds gs before hval hw' (hX _ _ _ (by rfl) hx) hsh).mono fun e W' ⟨v, he, hp⟩ => ?_
  subst he
  exact ChangeSpec.post_blind hp
end Go.Proofs.YtholfdfjapgfbaaGreatDoor

/-
  The row's frame with listed variables, the world's shape and the arguments' sizes handed on.
-/
namespace Go.Proofs.YtholfdfjapgfbaaGreatDoor
open Go.ChangeShapes Go.WideShapes Go.ChangeAt Go.RowKit

theorem handed_laid_sized {H : Type} {enc : TypeId × Value → H} {a : Assume} {C : Checked} {os : Os} {f : FuncId} {fn : Func} {s : ChangeSpec} {conds : List PathCond} {apart fresh handsOn again : Bool} {X : World → Array Value → Prop}
    (hX : ∀ (w w' : World) (args : Array Value), w.heap = w'.heap → X w args → X w' args)
    (own : ownKnob C.prog.godebug = none) (started : os.Started) (noInit : C.prog.inits.idxOf? f = none) (hfn : C.prog.funcs[f]? = some fn)
    (witness : ∃ (w : World) (tape : Tape) (i : Input), w.os = os ∧ (w.forCall tape i).Shaped C.prog ∧ i.vars = [] ∧ Input.okWide C.prog (w.forCall tape i) .any w.heap.size f i ∧
      ((s.pre enc C.prog fn conds apart (w.forCall tape i).memory i.args ∧ X (w.forCall tape i).memory i.args) ∧ sizedMet enc C.prog fn (OpenSpec.ofChange s) apart (w.forCall tape i).memory i.args) ∧ a.holds C.prog (lone (Frame.enter C.prog f i.args .normal) [] (w.forCall tape i)))
    (contract : ∀ (W : World) (base : Nat) (args : Array Value) (ds gs : List (DataW H)) (before : List MemPlace),
      (∀ (j : Nat) t v, fn.params[j]? = some t → args[j]? = some v → Value.okWide C.prog W .any base t v) →
      DataW.Whole enc C.prog fn.params.toList s.vars apart W args.toList ds gs before →
      X W args → W.ShapedOpen C.prog →
      (DataW.weightsEach C.prog (fn.params.toList ++ s.plain.varTypes C.prog) (ds ++ gs)).all (· ≤ reachBytes) = true →
      Calls C.prog f args W fun e W' => ∃ v, e = .returned v ∧ s.post enc C.prog fn apart fresh handsOn again W args v W') :
    ReturnsInHanded a C os f .any (fun w args => (s.pre enc C.prog fn conds apart w args ∧ X w args) ∧ sizedMet enc C.prog fn (OpenSpec.ofChange s) apart w args) (s.post enc C.prog fn apart fresh handsOn again) := by
  refine returnsInHanded_of_calls own started noInit witness ?_
  intro w tape i _ hsh _ hok hpre hholds
  obtain ⟨_, _, _, fn', hfn', _, _, _, _, hval⟩ := hok
  have e : fn' = fn := Option.some.inj (hfn'.symm.trans hfn)
  subst e
  obtain ⟨⟨⟨ds, gs, before, hw, hc⟩, hx⟩, hz⟩ := hpre
  have hw' := DataW.Whole.of_heap (w' := w.forCall tape i) (by rfl) hw
  refine (contract (w.forCall tape i) w.heap.size i.args ds gs before hval hw' (hX _ _ _ (by rfl) hx) hsh (hz.weights hw)).mono fun e W' ⟨v, he, hp⟩ => ?_
  subst he
  exact ChangeSpec.post_blind hp
end Go.Proofs.YtholfdfjapgfbaaGreatDoor
