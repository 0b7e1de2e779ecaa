/-
  The law FlogAgain, walked.
-/
import Derived.Test.YtipebinjdicnfaaFW4
namespace Go.Proofs.Ytipebinjdicnfaa
open Go.RowKit

/-- 'append(append([]string{}, s...), t)': a row of its own with all of s and t. -/
theorem rd_two {l : List ByteArray} {t : ByteArray} (h : ∀ x ∈ l, x.size ≤ 20000) (ht : t.size ≤ 20000) : Rd (frs l ++ fr t) (l ++ [t]) [] := by
  have h2 := Rd.frs (l := l ++ [t]) (fun x hx => by
    rcases List.mem_append.1 hx with hx | hx
    · exact h x hx
    · rw [List.mem_singleton.1 hx]; exact ht)
  rw [frs_app, frs_one] at h2
  exact h2

theorem kept_of {v : Value} {row : Option Nat} (h : ∀ k, v.ownBlock = some k → row = some k → False) : v.ownBlock = none ∨ v.ownBlock ≠ row := by
  cases hv : v.ownBlock with
  | none => exact .inl rfl
  | some k => exact .inr (fun e => h k hv e.symm)

set_option maxHeartbeats 4000000 in
theorem again_walk (pb : Option Addr) (nb cb : Nat) (b : List UInt8) (t : ByteArray) (w : World) (hb : IsBytes w (.slice pb nb cb) b) :
    Calls Try.prog 6 #[.slice pb nb cb, .string t] w fun e w' => e = .returned (.bool true) ∧ Below w.heap.size w w' := by
  have HLB := hide hb.len
  have HB := hide hb
  clear hb
  by_cases h2 : (20000 : Int) < (nb : Int)
  · have e2 : decide ((20000 : Int) < (nb : Int)) = true := by simpa using h2
    clear h2
    go_enter Try.func6, Try.ntmps6
    go_wp2_with fail
    refine (awake_any w).mono ?_
    rintro e w1 ⟨rfl, hb1⟩
    have HB1 := hide hb1
    clear hb1
    go_wp2_with fail
    refine (fnew w1 w.heap.size HB1.out.size).mono ?_
    rintro e w2 ⟨rfl, -, ha2⟩
    have HB2 := hide (HB1.out.trans ha2.below)
    clear ha2
    go_wp2_with fail
    go_ret
    exact ⟨rfl, HB2.out⟩
  have e2 : decide ((20000 : Int) < (nb : Int)) = false := by simpa using h2
  by_cases h3 : (20000 : Int) < (t.size : Int)
  · have e3 : decide ((20000 : Int) < (t.size : Int)) = true := by simpa using h3
    clear h2 h3
    go_enter Try.func6, Try.ntmps6
    go_wp2_with fail
    refine (awake_any w).mono ?_
    rintro e w1 ⟨rfl, hb1⟩
    have HB1 := hide hb1
    clear hb1
    go_wp2_with fail
    refine (fnew w1 w.heap.size HB1.out.size).mono ?_
    rintro e w2 ⟨rfl, -, ha2⟩
    have HB2 := hide (HB1.out.trans ha2.below)
    clear ha2
    go_wp2_with fail
    go_ret
    exact ⟨rfl, HB2.out⟩
  have e3 : decide ((20000 : Int) < (t.size : Int)) = false := by simpa using h3
  have HZ : Hid (b.length ≤ 20000 ∧ t.size ≤ 20000) := hide ⟨by have := HLB.out; omega, by omega⟩
  obtain ⟨l, r, hrd⟩ := rd_all b
  have HRD := hide hrd
  have HLL : Hid ((frs l).length ≤ 20000 ∧ l.length ≤ 20000) := hide (by
    have h1 := congrArg List.length hrd.eq
    rw [List.length_append] at h1
    have h2 := frs_len l
    have h3 := HZ.out.1
    omega)
  obtain ⟨N, hN⟩ : ∃ N, N = l.length := ⟨_, rfl⟩
  have HN := hide hN
  have hN2 : N ≤ 20000 := by rw [hN]; exact HLL.out.2
  clear h2 h3 hrd hN
  obtain ⟨j0, hj, hjz0, hjz1, hjz2⟩ := info_parts infoString
  go_enter Try.func6, Try.ntmps6
  go_wp2_with fail
  refine (awake_any w).mono ?_
  rintro e w1 ⟨rfl, hb1⟩
  have HB1 := hide hb1
  clear hb1
  go_wp2_with fail
  refine (fnew w1 w.heap.size HB1.out.size).mono ?_
  rintro e w2 ⟨rfl, hd2, ha2⟩
  have HD2 := hide hd2
  have HA2 := hide ((Aft.of HB1.out (Nat.le_refl _)).trans ha2)
  clear ha2 hd2
  go_wp2_with fail
  refine (fapp HD2.out _ b (HB.out.below HA2.out.below) (fun hl k hk => HB.out.lt hl k hk) (by have := HZ.out; omega) (⟨b, b.length, -1, false⟩, 0) (by simpa using app_ok [] b 0 (by have := HZ.out; simp; omega))).mono ?_
  rintro e w3 ⟨rfl, hd3, ha3⟩
  have HD3 := hide hd3
  have HA3 := hide (HA2.out.trans ha3)
  clear ha3 hd3
  go_wp2_with fail
  refine (fopen HD3.out l _ (opn_ok b.length HRD.out)).mono ?_
  rintro e w4 ⟨⟨L, vp, vc, rfl, hl4, ho4⟩, hd4, ha4⟩
  rw [← HN.out] at ho4 ⊢
  obtain ⟨K4, hK4⟩ : ∃ K4, K4 = if r = [] then b.length else 0 := ⟨_, rfl⟩
  rw [← hK4] at hd4
  have HD4 := hide hd4
  have HO4 := hide ho4
  have HL4 := hide hl4
  have HA4 := hide (HA3.out.trans ha4)
  clear hd4 ha4 hl4 ho4 hK4
  go_wp2_with fail
  refine (fopen HD4.out l ⟨frs l, K4, -1, false⟩ (opn_all rfl (Rd.frs HRD.out.small))).mono ?_
  rintro e w5 ⟨⟨L5, vp5, vc5, rfl, hl5, ho5⟩, hd5, ha5⟩
  rw [← HN.out] at ho5 ⊢
  have HD5 := hide hd5
  have HO4 := hide (ha5.str _ _ _ _ HO4.out)
  have HO5 := hide ho5
  have HL5 := hide hl5
  have HA5 := hide (HA4.out.trans ha5)
  clear hd5 ha5 hl5 ho5
  go_wp2_with fail
  refine (fput HD5.out HL5.out t (⟨frs l ++ fr t, 0, -1, false⟩, 0) (put_ok _ _ _ HZ.out.2 (by have := HLL.out; have := HZ.out; omega))).mono ?_
  rintro e w6 ⟨rfl, hd6, ha6⟩
  have HD6 : Hid (FD w6 w.heap.size w1.heap.size ⟨frs l ++ fr t, 0, -1, false⟩) := hide hd6
  have HO4 := hide (ha6.str _ _ _ _ HO4.out)
  have HO5 := hide (ha6.str _ _ _ _ HO5.out)
  have HA6 := hide (HA5.out.trans ha6)
  clear hd6 ha6
  go_wp2_with fail
  refine (fopen HD6.out (l ++ [t]) ⟨frs l ++ fr t, 0, -1, false⟩ (opn_all rfl (rd_two HRD.out.small HZ.out.2))).mono ?_
  rintro e w7 ⟨⟨L7, vp7, vc7, rfl, hl7, ho7⟩, hd7, ha7⟩
  have hl1 : (l ++ [t]).length = N + 1 := by rw [List.length_append, HN.out]; rfl
  rw [hl1] at ho7 ⊢
  have HO4 := hide (ha7.str _ _ _ _ HO4.out)
  have HO5 := hide (ha7.str _ _ _ _ HO5.out)
  have HO7 := hide ho7
  have HA7 := hide (HA6.out.trans ha7)
  clear hd7 ha7 hl7 ho7 hl1
  go_wp2_with fail
  refine (same_any w7 _ _ l l (own_str (by rw [← HN.out]; exact HO4.out)) (own_str (by rw [← HN.out]; exact HO5.out)) (by have := HLL.out; omega) true (by simp)).mono ?_
  rintro e w8 ⟨rfl, hb8⟩
  have HA8 := hide (HA7.out.trans (Aft.of hb8 HA7.out.below.size))
  have HO4 := hide (own_below HO4.out hb8)
  have HO7 := hide (own_below HO7.out hb8)
  clear hb8
  have HE9 := hide (own_empty w8 w8.heap.size (Nat.le_refl _))
  have hb9 : Below w8.heap.size w8 (w8.alloc (.cells #[] 9)) := (Below.refl _ _).alloc (Nat.le_refl _) _
  have HO4 := hide (own_str (ss := l) (by rw [← HN.out]; exact own_below HO4.out hb9))
  have H7K : Hid (∀ k, (Value.slice vp7 (N + 1) vc7).ownBlock = some k → k < w8.heap.size) := hide (fun k hk => (HO7.out.lt k hk).2)
  have HO7 := hide (own_below HO7.out hb9)
  have HW9 : Hid (Below w8.heap.size w8 (w8.alloc (.cells #[] 9))) := hide hb9
  clear hb9
  go_wp2_with (at_builtin; refine wpList_append_strs rfl _ _ rfl w8.heap.size _ 0 [] rfl HE9.out _ l rfl HO4.out (by rw [← HN.out]; omega) HW9.out.size ?_)
  intro v10 w10 ho10 hg10
  have h10 : w10.ownsRow w8.heap.size 9 1 v10 N (strV l) := by rw [HN.out]; exact ho10
  obtain ⟨p10, c10, rfl⟩ := own_len h10
  have HW10 : Hid (Below w8.heap.size w8 w10) := hide (HW9.out.grown hg10 HW9.out.size (fun k hk => (HE9.out.lt k hk).1))
  have HO7 := hide (HO7.out.kept hg10 (kept_of (fun k hv e => by
    have h1 := H7K.out k hv
    have h2 := (HE9.out.lt k e).1
    omega)))
  have hb11 : Below w10.heap.size w10 (w10.alloc (.cells #[.string t] 9)) := (Below.refl _ _).alloc (Nat.le_refl _) _
  have HO10 := hide (own_below h10 hb11)
  have HO7 := hide (own_below HO7.out hb11)
  have HT11 := hide (str_one w10 t)
  have HW11 : Hid (Below w8.heap.size w8 (w10.alloc (.cells #[.string t] 9))) := hide (HW10.out.trans (hb11.mono HW10.out.size))
  clear hb11 h10 ho10 hg10
  go_wp2_with (at_builtin; refine wpList_append_strs rfl _ _ rfl w8.heap.size _ N l rfl HO10.out _ [t] rfl HT11.out (by simp; omega) HW11.out.size ?_)
  intro v12 w12 ho12 hg12
  have h12 : w12.ownsRow w8.heap.size 9 1 v12 (N + 1) (strV (l ++ [t])) := ho12
  obtain ⟨p12, c12, rfl⟩ := own_len h12
  have HW12 : Hid (Below w8.heap.size w8 w12) := hide (HW11.out.grown hg12 HW11.out.size (fun k hk => (HO10.out.lt k hk).1))
  have HO7 := hide (HO7.out.kept hg12 (kept_of (fun k hv e => by
    have h1 := H7K.out k hv
    have h2 := (HO10.out.lt k e).1
    omega)))
  have hl1 : (l ++ [t]).length = N + 1 := by rw [List.length_append, HN.out]; rfl
  have HS12 : Hid (StrArg w12 (.slice p12 (N + 1) c12) (l ++ [t])) := hide (own_str (ss := l ++ [t]) (by rw [hl1]; exact h12))
  have HS7 := hide (own_str (ss := l ++ [t]) (by rw [hl1]; exact HO7.out))
  clear h12 ho12 hg12 hl1
  go_wp2_with fail
  refine (same_any w12 _ _ (l ++ [t]) (l ++ [t]) HS7.out HS12.out (by rw [List.length_append]; have := HLL.out; simp; omega) true (by simp)).mono ?_
  rintro e w13 ⟨rfl, hb13⟩
  have HB13 : Hid (Below w.heap.size w w13) := hide ((HA8.out.below.trans (HW12.out.mono HA8.out.below.size)).trans (hb13.mono (Nat.le_trans HA8.out.below.size HW12.out.size)))
  clear hb13
  go_wp2_with fail
  go_ret
  exact ⟨rfl, HB13.out⟩
end Go.Proofs.Ytipebinjdicnfaa
