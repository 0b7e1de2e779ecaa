/-
  The law RefsNumber: it answers true.
-/
import Derived.Test.YtlcmdgodpedimabDoorN1
import Derived.Test.YtlcmdgodpedimabDoorM3
namespace Go.Proofs.YtlcmdgodpedimabDoor
open Go.RowKit
open Utf1

theorem dtab_facts : ∀ c ∈ dtab, c ≠ 59 ∧ c ≠ 120 ∧ c ≠ 88 := by decide
theorem enc_bad (n : Nat) (h : 55296 ≤ n ∧ n ≤ 57343) : Utf8.encode (n : Int) = ⟨#[239, 191, 189]⟩ := by
  have v : Utf8.valid (n : Int) = false := by simp [Utf8.valid]; omega
  simp [Utf8.encode, v, Utf8.runeError]
theorem er_bad : er 65533 = [239, 191, 189] := by decide
theorem res_nil' : res [] = [] := rfl

theorem number10 (n : Nat) (D : List UInt8) (h : IsDigits 10 n D) : res ([97, 38, 35] ++ D ++ [59, 98]) = [97] ++ er (chN n) ++ [98] := by
  obtain ⟨h1, h2, h3, h4⟩ := h
  rw [if_pos rfl] at h4
  have hs : sf (35 :: D) = some (chN n) := by
    cases D with
    | nil => exact absurd rfl h1
    | cons x d =>
      have hx := dtab_facts x (h2 x (List.mem_cons_self ..))
      simp only [List.length_cons] at h4
      show sfN (x :: d) = _
      unfold sfN
      simp only
      rw [if_neg (fun e => e.elim hx.2.1 hx.2.2), if_neg (by omega)]
      unfold numS
      rw [if_neg h1, h3]
      rfl
  have hb := res_body (35 :: D) (chN n) [98] (by simp only [List.length_cons]; omega) (by
    intro c hc
    rcases List.mem_cons.1 hc with rfl | hc
    · decide
    · exact (dtab_facts c (h2 c hc)).1) hs
  have e : ([97, 38, 35] ++ D ++ [59, 98] : List UInt8) = 97 :: (38 :: ((35 :: D) ++ 59 :: [98])) := by simp
  rw [e, res_plain 97 _ (by decide), hb, res_plain 98 _ (by decide), res_nil]
  simp
theorem number16 (n : Nat) (D : List UInt8) (h : IsDigits 16 n D) : res ([38, 35, 120] ++ D ++ [59]) = er (chN n) := by
  obtain ⟨h1, h2, h3, h4⟩ := h
  rw [if_neg (by decide)] at h4
  have hs : sf (35 :: 120 :: D) = some (chN n) := by
    show sfN (120 :: D) = _
    unfold sfN
    simp only
    rw [if_pos (by simp), if_neg (by omega)]
    unfold numS
    rw [if_neg h1, h3]
    rfl
  have hb := res_body (35 :: 120 :: D) (chN n) [] (by simp only [List.length_cons]; omega) (by
    intro c hc
    rcases List.mem_cons.1 hc with rfl | hc
    · decide
    · rcases List.mem_cons.1 hc with rfl | hc
      · decide
      · exact (dtab_facts c (h2 c hc)).1) hs
  have e : ([38, 35, 120] ++ D ++ [59] : List UInt8) = 38 :: ((35 :: 120 :: D) ++ 59 :: []) := by simp
  rw [e, hb, res_nil, List.append_nil]

theorem num_texts (n : Nat) (D : List UInt8) (E : List UInt8) (hD : IsDigits 10 n D) (hE : IsDigits 16 n E) :
    (⟨#[97, 38, 35]⟩ ++ (⟨D.toArray⟩ : ByteArray) ++ ⟨#[59, 98]⟩ : ByteArray).size ≤ 100 ∧ (⟨#[38, 35, 120]⟩ ++ (⟨E.toArray⟩ : ByteArray) ++ ⟨#[59]⟩ : ByteArray).size ≤ 100 := by
  have hd := hD.2.2.2
  have he := hE.2.2.2
  rw [if_pos rfl] at hd
  rw [if_neg (by decide)] at he
  constructor
  · rw [← bl_len, app_bl, app_bl, List.length_append, List.length_append]
    show 3 + D.length + 2 ≤ 100
    omega
  · rw [← bl_len, app_bl, app_bl, List.length_append, List.length_append]
    show 3 + E.length + 1 ≤ 100
    omega

/-- The rest of the law, once it is told which text is wanted. -/
theorem number_fin (n : Nat) :
    (∀ (w : World) (D : List UInt8), Glob w → Hid (IsDigits 10 n D) → Calls Tryd.prog 6 #[.string (⟨#[97, 38, 35]⟩ ++ (⟨D.toArray⟩ : ByteArray) ++ ⟨#[59, 98]⟩)] w fun e w' => e = .returned (.string (⟨#[97]⟩ ++ (⟨(er (chN n)).toArray⟩ : ByteArray) ++ ⟨#[98]⟩)) ∧ Below w.heap.size w w')
    ∧ (∀ (w : World) (D : List UInt8), Glob w → Hid (IsDigits 16 n D) → Calls Tryd.prog 6 #[.string (⟨#[38, 35, 120]⟩ ++ (⟨D.toArray⟩ : ByteArray) ++ ⟨#[59]⟩)] w fun e w' => e = .returned (.string ⟨(er (chN n)).toArray⟩) ∧ Below w.heap.size w w') := by
  constructor
  · intro w D hg HD
    have hb : bl (⟨#[97, 38, 35]⟩ ++ (⟨D.toArray⟩ : ByteArray) ++ ⟨#[59, 98]⟩) = [97, 38, 35] ++ D ++ [59, 98] := by rw [app_bl, app_bl]
    have h := resolve_any (⟨#[97, 38, 35]⟩ ++ (⟨D.toArray⟩ : ByteArray) ++ ⟨#[59, 98]⟩) (by
      rw [← bl_len, hb, List.length_append, List.length_append]
      have hd := HD.out.2.2.2
      rw [if_pos rfl] at hd
      show 3 + D.length + 2 ≤ _
      omega) w hg
    rw [hb, number10 n D HD.out] at h
    have e : (⟨([97] ++ er (chN n) ++ [98]).toArray⟩ : ByteArray) = ⟨#[97]⟩ ++ (⟨(er (chN n)).toArray⟩ : ByteArray) ++ ⟨#[98]⟩ := ba_ext (by rw [app_bl, app_bl])
    rw [e] at h
    exact h
  · intro w D hg HD
    have hb : bl (⟨#[38, 35, 120]⟩ ++ (⟨D.toArray⟩ : ByteArray) ++ ⟨#[59]⟩) = [38, 35, 120] ++ D ++ [59] := by rw [app_bl, app_bl]
    have h := resolve_any (⟨#[38, 35, 120]⟩ ++ (⟨D.toArray⟩ : ByteArray) ++ ⟨#[59]⟩) (by
      rw [← bl_len, hb, List.length_append, List.length_append]
      have hd := HD.out.2.2.2
      rw [if_neg (by decide)] at hd
      show 3 + D.length + 1 ≤ _
      omega) w hg
    rw [hb, number16 n D HD.out] at h
    exact h

theorem below4 {w w1 w2 w3 w4 w5 : World} (hb1 : Below w.heap.size w w1) (hb2 : Below w1.heap.size w1 w2) (hb3 : Below w2.heap.size w2 w3) (hb4 : Below w3.heap.size w3 w4) (hb5 : Below w4.heap.size w4 w5) : Below w.heap.size w w5 := by
  have t2 := Nat.le_trans hb1.size hb2.size
  have t3 := Nat.le_trans t2 hb3.size
  have t4 := Nat.le_trans t3 hb4.size
  exact hb1.trans ((hb2.mono hb1.size).trans ((hb3.mono t2).trans ((hb4.mono t3).trans (hb5.mono t4))))


set_option maxHeartbeats 4000000 in
theorem number_zero (w : World) (hg : Glob w) :
    Calls Tryd.prog 3 #[.int .i64 0] w fun e w' => e = .returned (.bool true) ∧ Below w.heap.size w w' := by
  obtain ⟨r1, r2⟩ := number_fin 0
  have d1 := fun w => digits10 0 (by decide) w
  have d2 := fun w => digits16 0 (by decide) w
  rw [show chN 0 = 65533 from rfl, er_bad] at r1 r2
  have q1 : ((⟨#[97]⟩ ++ (⟨#[239, 191, 189]⟩ : ByteArray) ++ ⟨#[98]⟩ : ByteArray).toList == (⟨#[97]⟩ ++ (⟨#[239, 191, 189]⟩ : ByteArray) ++ ⟨#[98]⟩ : ByteArray).toList) = true := beq_same rfl
  go_enter Tryd.func3, Tryd.ntmps3
  go_wp2_with fail
  refine (awake_any _ hg).mono ?_
  rintro e w1 ⟨rfl, hb1⟩
  go_wp2_with fail
  refine (d1 _).mono ?_
  rintro e w2 ⟨⟨D, rfl, HD⟩, hb2⟩
  have sD : (⟨D.toArray⟩ : ByteArray).size ≤ 7 := by
    rw [size_mk]
    have := HD.out.2.2.2
    rwa [if_pos rfl] at this
  have sDE : (⟨#[97, 38, 35]⟩ ++ (⟨D.toArray⟩ : ByteArray) : ByteArray).size ≤ 100 := by
    rw [← bl_len, app_bl, List.length_append, bl_len, bl_len]
    have e3 : (⟨#[97, 38, 35]⟩ : ByteArray).size = 3 := rfl
    omega
  have r1' := fun w hg => r1 w D hg HD
  clear r1
  generalize (⟨D.toArray⟩ : ByteArray) = X at sD sDE r1'
  go_wp2_with fail
  refine (r1' _ ((hg.below hb1).below hb2)).mono ?_
  rintro e w3 ⟨rfl, hb3⟩
  go_wp2_with fail
  refine (d2 _).mono ?_
  rintro e w4 ⟨⟨E, rfl, HE⟩, hb4⟩
  have sE : (⟨E.toArray⟩ : ByteArray).size ≤ 7 := by
    rw [size_mk]
    have := HE.out.2.2.2
    rw [if_neg (by decide)] at this
    omega
  have sEE : (⟨#[38, 35, 120]⟩ ++ (⟨E.toArray⟩ : ByteArray) : ByteArray).size ≤ 100 := by
    rw [← bl_len, app_bl, List.length_append, bl_len, bl_len]
    have e3 : (⟨#[38, 35, 120]⟩ : ByteArray).size = 3 := rfl
    omega
  have r2' := fun w hg => r2 w E hg HE
  clear r2
  generalize (⟨E.toArray⟩ : ByteArray) = Y at sE sEE r2'
  go_wp2_with fail
  refine (r2' _ ((((hg.below hb1).below hb2).below hb3).below hb4)).mono ?_
  rintro e w5 ⟨rfl, hb5⟩
  go_wp2_with fail
  go_ret
  exact ⟨rfl, below4 hb1 hb2 hb3 hb4 hb5⟩

set_option maxHeartbeats 4000000 in
theorem number_cr (w : World) (hg : Glob w) :
    Calls Tryd.prog 3 #[.int .i64 13] w fun e w' => e = .returned (.bool true) ∧ Below w.heap.size w w' := by
  obtain ⟨r1, r2⟩ := number_fin 13
  have d1 := fun w => digits10 13 (by decide) w
  have d2 := fun w => digits16 13 (by decide) w
  rw [show chN 13 = 65533 from rfl, er_bad] at r1 r2
  have q1 : ((⟨#[97]⟩ ++ (⟨#[239, 191, 189]⟩ : ByteArray) ++ ⟨#[98]⟩ : ByteArray).toList == (⟨#[97]⟩ ++ (⟨#[239, 191, 189]⟩ : ByteArray) ++ ⟨#[98]⟩ : ByteArray).toList) = true := beq_same rfl
  go_enter Tryd.func3, Tryd.ntmps3
  go_wp2_with fail
  refine (awake_any _ hg).mono ?_
  rintro e w1 ⟨rfl, hb1⟩
  go_wp2_with fail
  refine (d1 _).mono ?_
  rintro e w2 ⟨⟨D, rfl, HD⟩, hb2⟩
  have sD : (⟨D.toArray⟩ : ByteArray).size ≤ 7 := by
    rw [size_mk]
    have := HD.out.2.2.2
    rwa [if_pos rfl] at this
  have sDE : (⟨#[97, 38, 35]⟩ ++ (⟨D.toArray⟩ : ByteArray) : ByteArray).size ≤ 100 := by
    rw [← bl_len, app_bl, List.length_append, bl_len, bl_len]
    have e3 : (⟨#[97, 38, 35]⟩ : ByteArray).size = 3 := rfl
    omega
  have r1' := fun w hg => r1 w D hg HD
  clear r1
  generalize (⟨D.toArray⟩ : ByteArray) = X at sD sDE r1'
  go_wp2_with fail
  refine (r1' _ ((hg.below hb1).below hb2)).mono ?_
  rintro e w3 ⟨rfl, hb3⟩
  go_wp2_with fail
  refine (d2 _).mono ?_
  rintro e w4 ⟨⟨E, rfl, HE⟩, hb4⟩
  have sE : (⟨E.toArray⟩ : ByteArray).size ≤ 7 := by
    rw [size_mk]
    have := HE.out.2.2.2
    rw [if_neg (by decide)] at this
    omega
  have sEE : (⟨#[38, 35, 120]⟩ ++ (⟨E.toArray⟩ : ByteArray) : ByteArray).size ≤ 100 := by
    rw [← bl_len, app_bl, List.length_append, bl_len, bl_len]
    have e3 : (⟨#[38, 35, 120]⟩ : ByteArray).size = 3 := rfl
    omega
  have r2' := fun w hg => r2 w E hg HE
  clear r2
  generalize (⟨E.toArray⟩ : ByteArray) = Y at sE sEE r2'
  go_wp2_with fail
  refine (r2' _ ((((hg.below hb1).below hb2).below hb3).below hb4)).mono ?_
  rintro e w5 ⟨rfl, hb5⟩
  go_wp2_with fail
  go_ret
  exact ⟨rfl, below4 hb1 hb2 hb3 hb4 hb5⟩

set_option maxHeartbeats 4000000 in
theorem number_high (n : Nat) (w : World) (hg : Glob w) (hn : n ≤ 9999999) (hb : 1114111 < n) (hc : chN n = 65533) :
    Calls Tryd.prog 3 #[.int .i64 (n : Int)] w fun e w' => e = .returned (.bool true) ∧ Below w.heap.size w w' := by
  obtain ⟨r1, r2⟩ := number_fin n
  have d1 := fun w => digits10 n hn w
  have d2 := fun w => digits16 n hn w
  rw [hc, er_bad] at r1 r2
  have q1 : ((⟨#[97]⟩ ++ (⟨#[239, 191, 189]⟩ : ByteArray) ++ ⟨#[98]⟩ : ByteArray).toList == (⟨#[97]⟩ ++ (⟨#[239, 191, 189]⟩ : ByteArray) ++ ⟨#[98]⟩ : ByteArray).toList) = true := beq_same rfl
  obtain ⟨z, hz⟩ : ∃ z : Int, z = (n : Int) := ⟨_, rfl⟩
  rw [← hz] at d1 d2 ⊢
  have e0 : (z == 0) = false := beq_eq_false_iff_ne.2 (by omega)
  have e1 : (z == 13) = false := beq_eq_false_iff_ne.2 (by omega)
  have z0 : 1114111 < z := by omega
  have z1 : z ≤ 9999999 := by omega
  clear hz
  go_enter Tryd.func3, Tryd.ntmps3
  go_wp2_with fail
  refine (awake_any _ hg).mono ?_
  rintro e w1 ⟨rfl, hb1⟩
  go_wp2_with fail
  refine (d1 _).mono ?_
  rintro e w2 ⟨⟨D, rfl, HD⟩, hb2⟩
  have sD : (⟨D.toArray⟩ : ByteArray).size ≤ 7 := by
    rw [size_mk]
    have := HD.out.2.2.2
    rwa [if_pos rfl] at this
  have sDE : (⟨#[97, 38, 35]⟩ ++ (⟨D.toArray⟩ : ByteArray) : ByteArray).size ≤ 100 := by
    rw [← bl_len, app_bl, List.length_append, bl_len, bl_len]
    have e3 : (⟨#[97, 38, 35]⟩ : ByteArray).size = 3 := rfl
    omega
  have r1' := fun w hg => r1 w D hg HD
  clear r1
  generalize (⟨D.toArray⟩ : ByteArray) = X at sD sDE r1'
  go_wp2_with fail
  refine (r1' _ ((hg.below hb1).below hb2)).mono ?_
  rintro e w3 ⟨rfl, hb3⟩
  go_wp2_with fail
  refine (d2 _).mono ?_
  rintro e w4 ⟨⟨E, rfl, HE⟩, hb4⟩
  have sE : (⟨E.toArray⟩ : ByteArray).size ≤ 7 := by
    rw [size_mk]
    have := HE.out.2.2.2
    rw [if_neg (by decide)] at this
    omega
  have sEE : (⟨#[38, 35, 120]⟩ ++ (⟨E.toArray⟩ : ByteArray) : ByteArray).size ≤ 100 := by
    rw [← bl_len, app_bl, List.length_append, bl_len, bl_len]
    have e3 : (⟨#[38, 35, 120]⟩ : ByteArray).size = 3 := rfl
    omega
  have r2' := fun w hg => r2 w E hg HE
  clear r2
  generalize (⟨E.toArray⟩ : ByteArray) = Y at sE sEE r2'
  go_wp2_with fail
  refine (r2' _ ((((hg.below hb1).below hb2).below hb3).below hb4)).mono ?_
  rintro e w5 ⟨rfl, hb5⟩
  go_wp2_with fail
  go_ret
  exact ⟨rfl, below4 hb1 hb2 hb3 hb4 hb5⟩

set_option maxHeartbeats 4000000 in
theorem number_mid (n : Nat) (w : World) (hg : Glob w) (hn : n ≤ 9999999) (h0 : n ≠ 0) (h13 : n ≠ 13) (hm : n ≤ 1114111) (S : ByteArray) (henc : Utf8.encode (n : Int) = S) (hS : (⟨(er (chN n)).toArray⟩ : ByteArray) = S) :
    Calls Tryd.prog 3 #[.int .i64 (n : Int)] w fun e w' => e = .returned (.bool true) ∧ Below w.heap.size w w' := by
  obtain ⟨r1, r2⟩ := number_fin n
  have d1 := fun w => digits10 n hn w
  have d2 := fun w => digits16 n hn w
  rw [hS] at r1 r2
  have sS : S.size ≤ 4 := by
    rw [← hS, size_mk]
    exact (er_len _).2
  have sA : (⟨#[97]⟩ ++ S : ByteArray).size ≤ 100 := by
    rw [← bl_len, app_bl, List.length_append, bl_len, bl_len]
    have e3 : (⟨#[97]⟩ : ByteArray).size = 1 := rfl
    omega
  have q1 : ((⟨#[97]⟩ ++ S ++ ⟨#[98]⟩ : ByteArray).toList == (⟨#[97]⟩ ++ S ++ ⟨#[98]⟩ : ByteArray).toList) = true := beq_same rfl
  have q2 : (S.toList == S.toList) = true := beq_same rfl
  clear hS
  obtain ⟨z, hz⟩ : ∃ z : Int, z = (n : Int) := ⟨_, rfl⟩
  rw [← hz] at d1 d2 henc ⊢
  have e0 : (z == 0) = false := beq_eq_false_iff_ne.2 (by omega)
  have e1 : (z == 13) = false := beq_eq_false_iff_ne.2 (by omega)
  have z0 : 0 ≤ z := by omega
  have z1 : z ≤ 1114111 := by omega
  clear hz
  go_enter Tryd.func3, Tryd.ntmps3
  go_wp2_with fail
  refine (awake_any _ hg).mono ?_
  rintro e w1 ⟨rfl, hb1⟩
  go_wp2_with fail
  refine (d1 _).mono ?_
  rintro e w2 ⟨⟨D, rfl, HD⟩, hb2⟩
  have sD : (⟨D.toArray⟩ : ByteArray).size ≤ 7 := by
    rw [size_mk]
    have := HD.out.2.2.2
    rwa [if_pos rfl] at this
  have sDE : (⟨#[97, 38, 35]⟩ ++ (⟨D.toArray⟩ : ByteArray) : ByteArray).size ≤ 100 := by
    rw [← bl_len, app_bl, List.length_append, bl_len, bl_len]
    have e3 : (⟨#[97, 38, 35]⟩ : ByteArray).size = 3 := rfl
    omega
  have r1' := fun w hg => r1 w D hg HD
  clear r1
  generalize (⟨D.toArray⟩ : ByteArray) = X at sD sDE r1'
  go_wp2_with fail
  refine (r1' _ ((hg.below hb1).below hb2)).mono ?_
  rintro e w3 ⟨rfl, hb3⟩
  go_wp2_with fail
  refine (d2 _).mono ?_
  rintro e w4 ⟨⟨E, rfl, HE⟩, hb4⟩
  have sE : (⟨E.toArray⟩ : ByteArray).size ≤ 7 := by
    rw [size_mk]
    have := HE.out.2.2.2
    rw [if_neg (by decide)] at this
    omega
  have sEE : (⟨#[38, 35, 120]⟩ ++ (⟨E.toArray⟩ : ByteArray) : ByteArray).size ≤ 100 := by
    rw [← bl_len, app_bl, List.length_append, bl_len, bl_len]
    have e3 : (⟨#[38, 35, 120]⟩ : ByteArray).size = 3 := rfl
    omega
  have r2' := fun w hg => r2 w E hg HE
  clear r2
  generalize (⟨E.toArray⟩ : ByteArray) = Y at sE sEE r2'
  go_wp2_with fail
  refine (r2' _ ((((hg.below hb1).below hb2).below hb3).below hb4)).mono ?_
  rintro e w5 ⟨rfl, hb5⟩
  go_wp2_with fail
  go_ret
  exact ⟨rfl, below4 hb1 hb2 hb3 hb4 hb5⟩

theorem number_walk (a : Int) (w : World) (hg : Glob w) :
    Calls Tryd.prog 3 #[.int .i64 a] w fun e w' => e = .returned (.bool true) ∧ Below w.heap.size w w' := by
  by_cases h0 : a < 0
  · go_enter Tryd.func3, Tryd.ntmps3
    go_wp2_with fail
    refine (awake_any _ hg).mono ?_
    rintro e w1 ⟨rfl, hb1⟩
    go_wp2_with fail
    go_ret
    exact ⟨rfl, hb1⟩
  by_cases h1 : 9999999 < a
  · go_enter Tryd.func3, Tryd.ntmps3
    go_wp2_with fail
    refine (awake_any _ hg).mono ?_
    rintro e w1 ⟨rfl, hb1⟩
    go_wp2_with fail
    go_ret
    exact ⟨rfl, hb1⟩
  obtain ⟨n, rfl⟩ : ∃ n : Nat, a = (n : Int) := ⟨a.toNat, by omega⟩
  have hn : n ≤ 9999999 := by omega
  by_cases hb : n = 0 ∨ n = 13 ∨ 1114111 < n
  · have hc : chN n = 65533 := by
      unfold chN
      rw [if_pos (by omega)]
    rcases hb with rfl | rfl | hb
    · exact number_zero w hg
    · exact number_cr w hg
    · exact number_high n w hg hn hb hc
  · by_cases hs : 55296 ≤ n ∧ n ≤ 57343
    · have hc : chN n = 65533 := by
        unfold chN
        rw [if_pos (by omega)]
      exact number_mid n w hg hn (by omega) (by omega) (by omega) ⟨#[239, 191, 189]⟩ (enc_bad n hs) (by rw [hc, er_bad])
    · have hc : chN n = n := by
        unfold chN
        rw [if_neg (by omega)]
      exact number_mid n w hg hn (by omega) (by omega) (by omega) ⟨(er n).toArray⟩ (encode_er n (by unfold Scalar; omega)) (by rw [hc])
end Go.Proofs.YtlcmdgodpedimabDoor
