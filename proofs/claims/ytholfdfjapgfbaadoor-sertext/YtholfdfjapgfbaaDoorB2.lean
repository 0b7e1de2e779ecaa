/-
  What tok.textLen answers where text begins.
-/
import Derived.Test.YtholfdfjapgfbaaDoorB1
namespace Go.Proofs.YtholfdfjapgfbaaDoor
open Go.RowKit
open Utf1

theorem index_lt (l : List UInt8) (c : UInt8) (h : 0 ≤ Lib.indexByte l c) : (Lib.indexByte l c).toNat < l.length ∧ l[(Lib.indexByte l c).toNat]? = some c ∧ ∀ j, j < (Lib.indexByte l c).toNat → l[j]? ≠ some c := by
  induction l with
  | nil => simp [Lib.indexByte] at h
  | cons b t ih =>
    have hge := Lib.indexByte_ge t c
    unfold Lib.indexByte at h ⊢
    by_cases hb : b = c
    · subst hb
      simp
    · rw [if_neg (by simpa using hb)] at h ⊢
      split at h
      · omega
      · rename_i hne
        have hne' : Lib.indexByte t c ≠ -1 := by simpa using hne
        rw [if_neg hne]
        obtain ⟨h1, h2, h3⟩ := ih (by omega)
        have e : (Lib.indexByte t c + 1).toNat = (Lib.indexByte t c).toNat + 1 := by omega
        rw [e]
        refine ⟨by simp; omega, by simpa using h2, ?_⟩
        intro j hj
        cases j with
        | zero => simpa using hb
        | succ j => simpa using h3 j (by omega)
theorem stop_one (c : UInt8) (t : List UInt8) (h : beg (c :: t) = 0) : stop (c :: t) = stop t + 1 := by
  rw [stop, if_pos h]
theorem stop_zero (c : UInt8) (t : List UInt8) (h : beg (c :: t) ≠ 0) : stop (c :: t) = 0 := by
  rw [stop, if_neg h]
theorem stop_skip : ∀ (k : Nat) (l : List UInt8), k ≤ l.length → (∀ j, j < k → l[j]? ≠ some 60) → stop l = k + stop (l.drop k)
  | 0, l, _, _ => by simp
  | k + 1, [], h, _ => by simp at h
  | k + 1, c :: t, h, hno => by
    have hc : c ≠ 60 := by simpa using hno 0 (by omega)
    have := stop_skip k t (by simpa using h) (fun j hj => by simpa using hno (j + 1) (by omega))
    rw [List.drop_succ_cons, stop_one c t (beg_ne t hc), this]
    omega
theorem stop_all (l : List UInt8) (h : l.contains 60 = false) : stop l = l.length := by
  have := stop_skip l.length l (Nat.le_refl _) (by
    intro j hj e
    have : (60 : UInt8) ∈ l := List.mem_of_getElem? e
    rw [← List.contains_iff_mem] at this
    rw [h] at this
    cases this)
  rw [this]
  simp [stop]

set_option maxHeartbeats 4000000 in
theorem textLen_any (s : ByteArray) (w : World) (hne : 1 ≤ s.size) (hs : s.size ≤ 4294967280) (hb : beg (bl s) = 0) :
    Calls Tryd.prog 18 #[.string s] w fun e w' => e = .returned (.int .i64 (stop (bl s) : Int)) ∧ Below w.heap.size w w' := by
  have hl := bl_len s
  have H0 : Hid (stop (bl s) = 1 + stop ((bl s).drop 1)) := hide (by
    cases hh : bl s with
    | nil =>
      rw [hh] at hl
      simp at hl
      omega
    | cons c t =>
      rw [hh] at hb
      rw [stop_one c t hb]
      simp
      omega)
  clear hb
  go_enter Tryd.func18, Tryd.ntmps18
  go_wp2
  go_loopg [3] (s.size - 1) (fun g v wr => ∃ p : Nat, p + g = s.size ∧ v = .int .i64 (p : Int) ∧ wr = w ∧ 1 ≤ p ∧ Hid (stop (bl s) = p + stop ((bl s).drop p)))
  case atStart => exact ⟨1, by omega, rfl, rfl, by omega, H0⟩
  case round =>
    obtain ⟨p, hpg, rfl, rfl, hp1, HS⟩ := hrel
    have hix := fun w => Tryd.strings_IndexByte (s.extract p s.size) 60 w
    have hbe : bl (s.extract p s.size) = (bl s).drop p := by
      rw [ext_drop]
    have e60 : ((60 : Int)).toNat.toUInt8 = 60 := by decide
    rw [e60] at hix
    have hix : ∀ w, Calls Tryd.prog 36 #[.string (s.extract p s.size), .int .u8 60] w fun e w' => e = .returned (.int .i64 (Lib.indexByte ((bl s).drop p) 60)) ∧ w' = w := by
      intro w
      rw [← hbe]
      exact hix w
    have hmem := index_mem ((bl s).drop p) 60
    have hlt := index_lt ((bl s).drop p) 60
    obtain ⟨k, hk⟩ : ∃ k, k = Lib.indexByte ((bl s).drop p) 60 := ⟨_, rfl⟩
    rw [← hk] at hmem hlt
    have hix : ∀ w, Calls Tryd.prog 36 #[.string (s.extract p s.size), .int .u8 60] w fun e w' => e = .returned (.int .i64 k) ∧ w' = w := by
      intro w
      rw [hk]
      exact hix w
    clear hk e60 hbe H0
    by_cases hk0 : 0 ≤ k
    case neg =>
      have hkn : k < 0 := by omega
      have HF : Hid (stop (bl s) = s.size) := hide (by
        rw [HS.out, stop_all _ (by
          cases hh : ((bl s).drop p).contains 60 with
          | false => rfl
          | true => exact absurd (hmem.2 hh) hk0), List.length_drop, hl]
        omega)
      clear hmem hlt HS hk0
      go_wp2_with fail
      refine (hix _).mono ?_
      rintro e w1 ⟨rfl, rfl⟩
      go_wp2_with fail
      go_ret
      rw [HF.out]
      exact ⟨rfl, Below.refl _ _⟩
    obtain ⟨kn, rfl⟩ : ∃ kn : Nat, k = (kn : Int) := ⟨k.toNat, by omega⟩
    obtain ⟨h1, h2, h3⟩ := hlt hk0
    rw [Int.toNat_natCast] at h1 h2 h3
    rw [List.length_drop, hl] at h1
    have hbe2 : bl (s.extract (p + kn) s.size) = (bl s).drop (p + kn) := by rw [ext_drop]
    have hbg := fun w => begins_any (s.extract (p + kn) s.size) w (by simp; omega)
    rw [hbe2] at hbg
    have hst : stop (bl s) = p + (kn + stop ((bl s).drop (p + kn))) := by
      rw [HS.out, stop_skip kn ((bl s).drop p) (by rw [List.length_drop, hl]; omega) h3, List.drop_drop]
    have hdc := drop_cons s (p + kn) (by omega)
    generalize (bl s)[p + kn]'(by rw [bl_len]; omega) = c at hdc
    obtain ⟨b, hbb⟩ : ∃ b, b = beg ((bl s).drop (p + kn)) := ⟨_, rfl⟩
    rw [← hbb] at hbg
    have hb3 := beg_le ((bl s).drop (p + kn))
    rw [← hbb] at hb3
    by_cases hb0 : b = 0
    · have HN : Hid (stop (bl s) = p + kn + 1 + stop ((bl s).drop (p + kn + 1))) := hide (by
        rw [hst, hdc, stop_one _ _ (by rw [← hdc, ← hbb, hb0])]
        omega)
      subst hb0
      clear hmem hlt HS h2 h3 hst hdc hbb hbe2 hk0 hb3
      go_wp2_with fail
      refine (hix _).mono ?_
      rintro e w1 ⟨rfl, rfl⟩
      go_wp2_with fail
      refine (hbg _).mono ?_
      rintro e w1 ⟨rfl, rfl⟩
      go_wp2_with fail
      go_roundg (gk - (kn + 1))
      case measure => omega
      case rel => exact ⟨p + kn + 1, by omega, by first | rfl | simp, rfl, by omega, HN⟩
    · have HF : Hid (stop (bl s) = p + kn) := hide (by
        rw [hst, hdc, stop_zero _ _ (by rw [← hdc, ← hbb]; exact hb0)]
        omega)
      have hbz : ((b : Int) != 0) = true := bne_iff_ne.2 (by omega)
      clear hmem hlt HS h2 h3 hst hdc hbb hbe2 hk0 hb3 hb0
      go_wp2_with fail
      refine (hix _).mono ?_
      rintro e w1 ⟨rfl, rfl⟩
      go_wp2_with fail
      refine (hbg _).mono ?_
      rintro e w1 ⟨rfl, rfl⟩
      go_wp2_with fail
      go_ret
      rw [HF.out]
      exact ⟨by first | rfl | simp, Below.refl _ _⟩
end Go.Proofs.YtholfdfjapgfbaaDoor
