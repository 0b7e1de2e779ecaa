/-
  What tok.rawLen answers.
-/
import Derived.Test.YtholfdfjapgfbaaDoorU0
import Derived.Test.YtholfdfjapgfbaaDoorU5
import Derived.Test.YtholfdfjapgfbaaDoorB2
import Derived.Test.YtholfdfjapgfbaaDoorB3
namespace Go.Proofs.YtholfdfjapgfbaaDoor
open Go.RowKit
open Utf1

/-- The library's variable for the length of short texts holds something. -/
def GlobM (w : World) : Prop := ∃ m, w.cell? ⟨0, 0, none⟩ = some (.int .i64 m)
theorem GlobM.below {w w' : World} (h : GlobM w) (hb : Below w.heap.size w w') : GlobM w' := by
  obtain ⟨m, hc⟩ := h
  exact ⟨m, (hb.cell (p := ⟨0, 0, none⟩) (cell_lt hc)).trans hc⟩

theorem index_first (sub : List UInt8) (hs : sub ≠ []) (l : List UInt8) (h : 0 ≤ Lib.index l sub) : (Lib.index l sub).toNat < l.length ∧ sub.isPrefixOf (l.drop (Lib.index l sub).toNat) = true ∧ ∀ j, j < (Lib.index l sub).toNat → sub.isPrefixOf (l.drop j) = false := by
  induction l with
  | nil =>
    unfold Lib.index at h
    rw [if_neg (by simpa using hs)] at h
    omega
  | cons b t ih =>
    unfold Lib.index at h ⊢
    cases hp : sub.isPrefixOf (b :: t) with
    | true => simpa using hp
    | false =>
      rw [hp, if_neg (by simp)] at h
      rw [if_neg (by simp)]
      split at h
      · omega
      · rename_i hne
        have hne' : Lib.index t sub ≠ -1 := by simpa using hne
        have hge := Lib.index_ge t sub
        rw [if_neg hne]
        obtain ⟨h1, h2, h3⟩ := ih (by omega)
        have e : (Lib.index t sub + 1).toNat = (Lib.index t sub).toNat + 1 := by omega
        rw [e]
        refine ⟨by simp; omega, by simpa using h2, ?_⟩
        intro j hj
        cases j with
        | zero => exact hp
        | succ j => exact h3 j (by omega)
theorem index_never (sub : List UInt8) (hs : sub ≠ []) (l : List UInt8) (h : Lib.index l sub < 0) : ∀ j, sub.isPrefixOf (l.drop j) = false := by
  induction l with
  | nil =>
    intro j
    cases sub with
    | nil => exact absurd rfl hs
    | cons a r => simp
  | cons b t ih =>
    have hge := Lib.index_ge t sub
    unfold Lib.index at h
    cases hp : sub.isPrefixOf (b :: t) with
    | true =>
      rw [hp, if_pos rfl] at h
      omega
    | false =>
      rw [hp, if_neg (by simp)] at h
      intro j
      cases j with
      | zero => exact hp
      | succ j =>
        refine ih ?_ j
        split at h
        · rename_i he
          have : Lib.index t sub = -1 := by simpa using he
          omega
        · omega

theorem raw_skip (nm : List UInt8) : ∀ (k : Nat) (l : List UInt8), k ≤ l.length → (∀ j, j < k → rawEnds nm (l.drop j) = false) → rawStop nm l = k + rawStop nm (l.drop k)
  | 0, l, _, _ => by simp
  | k + 1, [], h, _ => by simp at h
  | k + 1, c :: t, h, hno => by
    have h0 : rawEnds nm (c :: t) = false := hno 0 (by omega)
    have := raw_skip nm k t (by simpa using h) (fun j hj => hno (j + 1) (by omega))
    rw [List.drop_succ_cons, rawStop, if_neg (by rw [h0]; simp), this]
    omega
theorem raw_pre (nm l : List UInt8) (h : [60, 47].isPrefixOf l = false) : rawEnds nm l = false := by
  unfold rawEnds
  rw [h]
  rfl
theorem raw_at (nm l : List UInt8) (h : [60, 47].isPrefixOf l = true) : rawEnds nm l = (decide (2 + nm.length < l.length) && decide (lower ((l.drop 2).take nm.length) = nm) && isNm (l.getD (2 + nm.length) 0)) := by
  unfold rawEnds
  rw [h]
  rfl
theorem set_nm1 (x : UInt8) : (bl ⟨#[9, 10, 12, 13, 32, 47, 62]⟩).contains x = isNm x := by
  show [9, 10, 12, 13, 32, 47, 62].contains x = _
  simp only [List.contains_cons, List.contains_nil, Bool.or_false, isNm, isBl, Bool.or_assoc]

set_option maxRecDepth 100000 in
set_option maxHeartbeats 8000000 in
theorem rawLen_any (s name : ByteArray) (w : World) (hs : s.size ≤ 4294967280) (hn : name.size ≤ 4294967280) (hg : GlobM w) :
    Calls Tryd.prog 35 #[.string s, .string name] w fun e w' => e = .returned (.int .i64 (rawLen (bl name) (bl s) : Int)) ∧ Below w.heap.size w w' := by
  have hl := bl_len s
  have hnl := bl_len name
  have fp := eq_lit name [112, 108, 97, 105, 110, 116, 101, 120, 116]
  by_cases hp : bl name = plainText
  · rw [show decide (bl name = [112, 108, 97, 105, 110, 116, 101, 120, 116]) = true from decide_eq_true hp] at fp
    have HR : Hid (rawLen (bl name) (bl s) = s.size) := hide (by
      unfold rawLen
      rw [if_pos hp, hl])
    rw [HR.out]
    clear hp HR hl hnl
    go_enter Tryd.func35, Tryd.ntmps35
    go_wp2
    go_ret
    exact ⟨rfl, Below.refl _ _⟩
  rw [show decide (bl name = [112, 108, 97, 105, 110, 116, 101, 120, 116]) = false from decide_eq_false hp] at fp
  have HR : Hid (rawLen (bl name) (bl s) = rawStop (bl name) (bl s)) := hide (by
    unfold rawLen
    rw [if_neg hp])
  rw [HR.out]
  clear hp HR
  have HG := hide hg
  clear hg
  go_enter Tryd.func35, Tryd.ntmps35
  go_wp2_with fail
  refine (oneOf_c _ _).mono ?_
  rintro e w1 ⟨rfl, hc1, -, hb1⟩
  have HB1 := hide hb1
  have HC1 := hide hc1
  have HG1 := hide (HG.out.below hb1)
  clear hb1 hc1 HG fp
  go_wp2_with fail
  go_loopg [6] s.size (fun g v wr => ∃ p : Nat, p + g = s.size ∧ v = .int .i64 (p : Int) ∧ Below w1.heap.size w1 wr ∧ Hid (rawStop (bl name) (bl s) = p + rawStop (bl name) ((bl s).drop p)))
  case atStart => exact ⟨0, by omega, rfl, Below.refl _ _, hide (by simp)⟩
  case round =>
    obtain ⟨p, hpg, rfl, hbw, HS⟩ := hrel
    obtain ⟨m, hm⟩ := HG1.out.below hbw
    have hix := Tryd.strings_Index (s.extract p s.size) ⟨#[60, 47]⟩ m wr (by simp; omega) hm
    have hbe : bl (s.extract p s.size) = (bl s).drop p := by rw [ext_drop]
    have hnev := index_never [60, 47] (by simp) ((bl s).drop p)
    have hfir := index_first [60, 47] (by simp) ((bl s).drop p)
    obtain ⟨k, hk⟩ : ∃ k, k = Lib.index ((bl s).drop p) [60, 47] := ⟨_, rfl⟩
    rw [← hk] at hnev hfir
    have hix : Calls Tryd.prog 46 #[.string (s.extract p s.size), .string ⟨#[60, 47]⟩] wr fun e w' => e = .returned (.int .i64 k) ∧ w' = wr := by
      rw [hk, ← hbe]
      exact hix
    have HBW := hide hbw
    clear hk hbe hm hbw
    by_cases hk0 : 0 ≤ k
    case neg =>
      have hkn : k < 0 := by omega
      have HF : Hid (rawStop (bl name) (bl s) = s.size) := hide (by
        rw [HS.out, raw_skip (bl name) (s.size - p) ((bl s).drop p) (by rw [List.length_drop, hl]; exact Nat.le_refl _) (fun j _ => raw_pre _ _ (hnev hkn j)), List.drop_of_length_le (by rw [List.length_drop, hl]; exact Nat.le_refl _)]
        simp [rawStop]
        omega)
      clear hnev hfir HS hk0
      go_wp2_with fail
      refine hix.mono ?_
      rintro e w2 ⟨rfl, rfl⟩
      go_wp2_with fail
      go_ret
      rw [HF.out]
      exact ⟨rfl, bel2 HB1.out HBW.out⟩
    obtain ⟨kn, rfl⟩ : ∃ kn : Nat, k = (kn : Int) := ⟨k.toNat, by omega⟩
    obtain ⟨h1, h2, h3⟩ := hfir hk0
    rw [Int.toNat_natCast] at h1 h2 h3
    rw [List.length_drop, hl] at h1
    rw [List.drop_drop] at h2
    have hst : rawStop (bl name) (bl s) = p + (kn + rawStop (bl name) ((bl s).drop (p + kn))) := by
      rw [HS.out, raw_skip (bl name) kn ((bl s).drop p) (by rw [List.length_drop, hl]; omega) (fun j hj => raw_pre _ _ (h3 j hj)), List.drop_drop]
    have hdc := drop_cons s (p + kn) (by omega)
    generalize (bl s)[p + kn]'(by rw [bl_len]; omega) = c at hdc
    have hat := raw_at (bl name) _ h2
    rw [List.length_drop, hl, hnl, List.drop_drop] at hat
    have HNX : rawEnds (bl name) ((bl s).drop (p + kn)) = false → Hid (rawStop (bl name) (bl s) = p + kn + 1 + rawStop (bl name) ((bl s).drop (p + kn + 1))) := fun h => hide (by
      rw [hst, hdc, rawStop, if_neg (by rw [← hdc, h]; simp)]
      omega)
    have HHT : rawEnds (bl name) ((bl s).drop (p + kn)) = true → Hid (rawStop (bl name) (bl s) = p + kn) := fun h => hide (by
      rw [hst, hdc, rawStop, if_pos (by rw [← hdc]; exact h)]
      omega)
    clear hnev hfir HS hk0 h2 h3 hst hdc
    by_cases hend : p + kn + 2 + name.size < s.size
    case neg =>
      have HN := HNX (by rw [hat, decide_eq_false (by omega)]; rfl)
      clear hat HNX HHT
      go_wp2_with fail
      refine hix.mono ?_
      rintro e w2 ⟨rfl, rfl⟩
      go_wp2_with fail
      go_roundg (gk - (kn + 1))
      case measure => omega
      case rel => exact ⟨p + kn + 1, by omega, by first | rfl | simp, HBW.out, HN⟩
    have hlo := fun w => lower_any (s.extract (p + kn + 2) (p + kn + 2 + name.size)) w
    have hbx : bl (s.extract (p + kn + 2) (p + kn + 2 + name.size)) = ((bl s).drop (p + kn + 2)).take name.size := by
      rw [extract_bl]
      congr 1
      omega
    rw [hbx] at hlo
    have hLb : bl ⟨(lower (((bl s).drop (p + kn + 2)).take name.size)).toArray⟩ = lower (((bl s).drop (p + kn + 2)).take name.size) := rfl
    generalize (⟨(lower (((bl s).drop (p + kn + 2)).take name.size)).toArray⟩ : ByteArray) = LW at hlo hLb
    rw [← hLb] at hat
    clear hbx hLb
    by_cases heq : bl LW = bl name
    case neg =>
      have HN := HNX (by rw [hat, decide_eq_false heq]; simp)
      have hq := beq_ne heq
      clear hat HNX HHT heq
      go_wp2_with fail
      refine hix.mono ?_
      rintro e w2 ⟨rfl, rfl⟩
      go_wp2_with fail
      refine (hlo _).mono ?_
      rintro e w3 ⟨rfl, hb3⟩
      go_wp2_with fail
      go_roundg (gk - (kn + 1))
      case measure => omega
      case rel => exact ⟨p + kn + 1, by omega, by first | rfl | simp, bel2 HBW.out hb3, HN⟩
    have hq := beq_same heq
    have hge : (bl s)[p + kn + 2 + name.size]? = some ((bl s)[p + kn + 2 + name.size]'(by rw [hl]; exact hend)) := List.getElem?_eq_getElem _
    have hgd : ((bl s).drop (p + kn)).getD (2 + name.size) 0 = (bl s)[p + kn + 2 + name.size]'(by rw [hl]; exact hend) := by
      rw [List.getD_eq_getElem?_getD, List.getElem?_drop, show p + kn + (2 + name.size) = p + kn + 2 + name.size by omega, hge]
      rfl
    rw [hgd] at hat
    clear hgd
    generalize (bl s)[p + kn + 2 + name.size]'(by rw [hl]; exact hend) = f at hat hge
    have ie0 := fun w => idxK hge w
    have hcl : ∀ w', Below w1.heap.size w1 w' → Calls Tryd.prog 43 #[.int .u8 (f.toNat : Int), .pointer (some ⟨w.heap.size, 0, none⟩)] w' fun e w'' => e = .returned (.bool (isNm f)) ∧ w'' = w' := by
      intro w' hb
      rw [← set_nm1]
      exact one1_any ⟨#[9, 10, 12, 13, 32, 47, 62]⟩ f w.heap.size w' ((hb.cell (p := ⟨w.heap.size, 0, none⟩) (cell_lt HC1.out)).trans HC1.out)
    rw [decide_eq_true (by omega), decide_eq_true heq] at hat
    have hat : rawEnds (bl name) ((bl s).drop (p + kn)) = isNm f := by rw [hat]; rfl
    obtain ⟨x, hx⟩ : ∃ x : Int, x = (f.toNat : Int) := ⟨_, rfl⟩
    have ie : ∀ w, (Instr.index 9 (.string s) (.int .i64 ((p : Int) + (kn : Int) + 2 + (name.size : Int)))).run Tryd.prog w = .ok (.int .u8 x) w := by
      rw [hx, show ((p : Int) + (kn : Int) + 2 + (name.size : Int)) = ((p + kn + 2 + name.size : Nat) : Int) by omega]
      exact ie0
    clear ie0
    rw [← hx] at hcl
    have HCL := hide hcl
    clear hx heq hge hcl
    cases hF : isNm f with
    | true =>
      have HN := HHT (by rw [hat, hF])
      rw [hF] at HCL
      clear hat HNX HHT hF
      go_wp2_with fail
      refine hix.mono ?_
      rintro e w2 ⟨rfl, rfl⟩
      go_wp2_with fail
      refine (hlo _).mono ?_
      rintro e w3 ⟨rfl, hb3⟩
      go_wp2_with fail
      refine (HCL.out _ (bel2 HBW.out hb3)).mono ?_
      rintro e w4 ⟨rfl, rfl⟩
      go_wp2_with fail
      go_ret
      rw [HN.out]
      exact ⟨by first | rfl | simp, bel2 HB1.out (bel2 HBW.out hb3)⟩
    | false =>
      have HN := HNX (by rw [hat, hF])
      rw [hF] at HCL
      clear hat HNX HHT hF
      go_wp2_with fail
      refine hix.mono ?_
      rintro e w2 ⟨rfl, rfl⟩
      go_wp2_with fail
      refine (hlo _).mono ?_
      rintro e w3 ⟨rfl, hb3⟩
      go_wp2_with fail
      refine (HCL.out _ (bel2 HBW.out hb3)).mono ?_
      rintro e w4 ⟨rfl, rfl⟩
      go_wp2_with fail
      go_roundg (gk - (kn + 1))
      case measure => omega
      case rel => exact ⟨p + kn + 1, by omega, by first | rfl | simp, bel2 HBW.out hb3, HN⟩
end Go.Proofs.YtholfdfjapgfbaaDoor
