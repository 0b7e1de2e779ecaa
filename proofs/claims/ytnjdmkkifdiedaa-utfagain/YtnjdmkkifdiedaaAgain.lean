/-
  The law UtfAgain, walked: it answers true at all bytes.
-/
import Derived.Test.YtnjdmkkifdiedaaW5
namespace Go.Proofs.Ytnjdmkkifdiedaa
open Go.RowKit
open Utf1

/-- A text's byte at a place is the list's. -/
theorem get_bl (s : ByteArray) (k : Nat) (h : k < s.size) : s[k]'h = (bl s)[k]'(by rw [bl_len]; exact h) := rfl

theorem fix_byte (l : List UInt8) (S : ByteArray) (hS : S = ⟨(fix l).toArray⟩) (k : Nat) (h : k < S.size) : ((S[k].toNat : Int) == 0) = false ∧ ((S[k].toNat : Int) == 13) = false := by
  subst hS
  have hk : k < (fix l).length := by simpa [ByteArray.size] using h
  have := fix_no l _ (List.getElem_mem hk)
  have e : (⟨(fix l).toArray⟩ : ByteArray)[k] = (fix l)[k] := rfl
  rw [e]
  refine ⟨beq_eq_false_iff_ne.2 ?_, beq_eq_false_iff_ne.2 ?_⟩ <;> omega

theorem enc_len (rs : List Nat) : (enc rs).length ≤ 4 * rs.length := by
  induction rs with
  | nil => simp [enc_nil]
  | cons r rs ih =>
    have := er_len r
    rw [enc_cons, List.length_append, List.length_cons]
    omega
theorem fixR_len : ∀ (rs : List Nat) (last : Nat), (fixR last rs).length ≤ rs.length
  | [], _ => Nat.le_refl _
  | r :: t, last => by
    have := fixR_len t r
    have h1 : (one last r).length ≤ 1 := by unfold one; split; (simp); split; (simp); split <;> simp
    rw [fixR, List.length_append, List.length_cons]
    omega
theorem runes_len (l : List UInt8) : (runes l).length ≤ l.length := by
  induction h : l.length using Nat.strongRecOn generalizing l with
  | ind m ih =>
    by_cases hl : l = []
    · subst hl; simp [runes_nil]
    · have hw := dl_width l hl
      rw [runes_step l hl, List.length_cons]
      have := ih (l.drop (dl l).2).length (by simp; omega) _ rfl
      simp at this
      omega
theorem fix_len (l : List UInt8) : (fix l).length ≤ 4 * l.length := by
  have h1 := enc_len (fixR 0 (runes l))
  have h2 := fixR_len (runes l) 0
  have h3 := runes_len l
  unfold fix
  omega

/-- Whether the first k bytes hold no byte 0 and no byte 13. -/
def plainTo (l : List UInt8) (k : Nat) : Bool := (l.take k).all fun b => b.toNat != 0 && b.toNat != 13
theorem plainTo_zero (l : List UInt8) : plainTo l 0 = true := rfl
theorem plainTo_succ (l : List UInt8) (k : Nat) (h : k < l.length) : plainTo l (k + 1) = (plainTo l k && ((l[k].toNat : Int) != 0 && (l[k].toNat : Int) != 13)) := by
  unfold plainTo
  rw [List.take_succ_eq_append_getElem h, List.all_append]
  simp only [List.all_cons, List.all_nil, Bool.and_true]
  congr 2
  · rw [Bool.eq_iff_iff, bne_iff_ne, bne_iff_ne]; omega
  · rw [Bool.eq_iff_iff, bne_iff_ne, bne_iff_ne]; omega
theorem plainTo_all (l : List UInt8) (k : Nat) (hk : l.length ≤ k) (h : plainTo l k = true) : ∀ x ∈ l, x.toNat ≠ 0 ∧ x.toNat ≠ 13 := by
  unfold plainTo at h
  rw [List.take_of_length_le hk, List.all_eq_true] at h
  intro x hx
  have := h x hx
  simpa using this

theorem below5 {w w1 w2 w3 w4 w5 : World} (hb1 : Below w.heap.size w w1) (hb2 : Below w1.heap.size w1 w2) (hb3 : Below w2.heap.size w2 w3) (hb4 : Below w3.heap.size w3 w4) (hb5 : Below w4.heap.size w4 w5) : Below w.heap.size w w5 := by
  have s1 := hb1.size
  have s2 := hb2.size
  have s3 := hb3.size
  have s4 := hb4.size
  exact (((hb1.trans (hb2.mono s1)).trans (hb3.mono (by omega))).trans (hb4.mono (by omega))).trans (hb5.mono (by omega))

set_option maxHeartbeats 4000000 in
theorem lawAgain_in (a : Option Addr) (n cap : Nat) (l : List UInt8) (w : World) (hB : IsBytes w (.slice a n cap) l) (hn : n ≤ 10000) :
    Calls Try.prog 6 #[.slice a n cap] w fun e w' => e = .returned (.bool true) ∧ Below w.heap.size w w' := by
  have HN := hide hB.len
  have hl : l.length ≤ 1099511627776 := by have := HN.out; omega
  obtain ⟨S, hS⟩ : ∃ S : ByteArray, S = ⟨(fix l).toArray⟩ := ⟨_, rfl⟩
  have hbS : bl S = fix l := by rw [hS]
  have hno := fix_byte l S hS
  have hSl : S.size ≤ 40000 := by have := fix_len l; have := HN.out; rw [← bl_len, hbS]; omega
  have FX : Hid (∀ w : World, IsBytes w (.slice a n cap) l → Calls Try.prog 10 #[.slice a n cap] w fun e w' => e = .returned (.string S) ∧ Below w.heap.size w w') := by
    intro w hB
    rw [hS]
    exact fix_any _ l w hB hl
  have FS : Hid (∀ (w : World) (v : Value), IsBytes w v (bl S) → Calls Try.prog 10 #[v] w fun e w' => e = .returned (.string S) ∧ Below w.heap.size w w') := by
    intro w v hv
    have := fix_any v _ w hv (by rw [bl_len]; omega)
    rw [hbS, fix_fix, ← hS] at this
    exact this
  have VS : Hid (∀ w : World, Calls Try.prog 12 #[.string S] w fun e w' => e = .returned (.bool true) ∧ Below w.heap.size w w') := by
    intro w
    have := valid_any S w
    rw [hbS, valid_fix] at this
    exact this
  have VL : Hid (∀ w : World, Calls Try.prog 12 #[.string ⟨l.toArray⟩] w fun e w' => e = .returned (.bool (valid l)) ∧ Below w.heap.size w w') := fun w => valid_any ⟨l.toArray⟩ w
  have HF : Hid ((valid l && plainTo l n) = true → S = ⟨l.toArray⟩) := by
    intro h
    rw [Bool.and_eq_true] at h
    rw [hS, fix_plain l h.1 (plainTo_all l n (by have := HN.out; omega) h.2)]
  clear hS hbS
  have tb : decide ((10000 : Int) < (n : Int)) = false := by simp; omega
  have HB := hide hB
  clear hB
  generalize valid l = V at *
  go_enter Try.func6, Try.ntmps6
  go_wp2_with fail
  refine (awake_any _).mono ?_
  rintro e w1 ⟨rfl, hb1⟩
  have HB1 := hide (HB.out.below hb1)
  go_wp2_with fail
  refine (FX.out _ HB1.out).mono ?_
  rintro e w2 ⟨rfl, hb2⟩
  have HB2 := hide (HB1.out.below hb2)
  have hcv := HB2.out.conv
  go_wp2_with fail
  refine (VL.out _).mono ?_
  rintro e w3 ⟨rfl, hb3⟩
  have HB3 := hide (HB2.out.below hb3)
  clear hcv
  go_wp2_with fail
  go_loop [5, 6] (fun p i => ∃ k : Nat, k ≤ n ∧ i = .int .i64 k ∧ p = .bool (V && plainTo l k)) (fun _ i => n - (intOf i).toNat)
  case atStart => exact ⟨0, Nat.zero_le _, rfl, by rw [plainTo_zero, Bool.and_true]⟩
  case round =>
    obtain ⟨k, hk, rfl, rfl⟩ := hrel
    by_cases hlt : k < n
    · have hkl : k < l.length := by have := HN.out; omega
      obtain ⟨b0, off, rfl, hce⟩ := HB3.out.at k hkl
      have hps := plainTo_succ l k hkl
      generalize hc : (l[k].toNat : Int) = c at *
      generalize hq : (V && plainTo l k) = q at *
      have HPS := hide hps
      have HQ := hide hq
      clear hps hq hc
      have fin : Hid ((V && plainTo l (k + 1)) = (q && (c != 0 && c != 13))) := by
        show (V && plainTo l (k + 1)) = (q && (c != 0 && c != 13))
        rw [HPS.out, ← Bool.and_assoc, HQ.out]
      cases q with
      | false =>
        go_wp2
        go_round
        case rel => exact ⟨k + 1, by omega, by go_num, by rw [fin.out]; rfl⟩
        case measure => simp [intOf]; omega
      | true =>
        cases h0 : (c != 0) with
        | false =>
          go_wp2
          go_round
          case rel => exact ⟨k + 1, by omega, by go_num, by rw [fin.out, h0]; rfl⟩
          case measure => simp [intOf]; omega
        | true =>
          cases h13 : (c != 13) with
          | false =>
            go_wp2
            go_round
            case rel => exact ⟨k + 1, by omega, by go_num, by rw [fin.out, h0, h13]; rfl⟩
            case measure => simp [intOf]; omega
          | true =>
            go_wp2
            go_round
            case rel => exact ⟨k + 1, by omega, by go_num, by rw [fin.out, h0, h13]; rfl⟩
            case measure => simp [intOf]; omega
    · obtain rfl : k = n := by omega
      generalize hq : (V && plainTo l k) = q at *
      have HQ := hide hq
      clear hq
      go_wp2_with fail
      go_loop [7] (fun i => ∃ j : Nat, j ≤ S.size ∧ i = .int .i64 j) (fun i => S.size - (intOf i).toNat)
      case atStart => exact ⟨0, Nat.zero_le _, rfl⟩
      case round =>
        obtain ⟨j, hj, rfl⟩ := hrel
        by_cases hjl : j < S.size
        · obtain ⟨n0, n13⟩ := hno j hjl
          go_wp2
          go_round
          case rel => exact ⟨j + 1, by omega, by go_num⟩
          case measure => simp [intOf]; omega
        · have hby := fun (w : World) (s : ByteArray) => run_bytes_of_string (P := Try.prog) w 9 22 5 s Try.underlying9 Try.underlying22 Try.underlying5
          clear hno
          go_wp2_with fail
          refine (VS.out _).mono ?_
          rintro e w4 ⟨rfl, hb4⟩
          have HB4 := hide (HB3.out.below hb4)
          go_wp2_with fail
          have hrow : ∀ c, IsBytes (w4.alloc (.cells (bytesRow S c) 5 ((bytesRow S c).size, (bytesRow S c).size + 1))).drew (.slice (some ⟨w4.heap.size, 0, none⟩) S.size c) (bl S) := by
            intro c
            have := IsBytes.ofRow (row_new w4 S c) c
            rw [bl_len] at this
            exact this
          refine (FS.out _ _ (hrow _)).mono ?_
          rintro e w5 ⟨rfl, hb5⟩
          have hb5' : Below w4.heap.size w4 w5 := (((Below.refl _ w4).alloc (Nat.le_refl _) _).drew).trans (hb5.mono (by simp))
          have HB5 := hide (HB4.out.below hb5')
          have hcv := HB5.out.conv
          clear hrow hby
          cases q with
          | false =>
            go_wp2_with fail
            go_ret
            exact ⟨ret_bool (by simp), below5 hb1 hb2 hb3 hb4 hb5'⟩
          | true =>
            have hSL := HF.out rfl
            rw [← hSL] at hcv
            clear hSL
            go_wp2_with fail
            go_ret
            exact ⟨ret_bool (by simp), below5 hb1 hb2 hb3 hb4 hb5'⟩

theorem lawAgain_big (a : Option Addr) (n cap : Nat) (w : World) (hn : 10000 < n) :
    Calls Try.prog 6 #[.slice a n cap] w fun e w' => e = .returned (.bool true) ∧ Below w.heap.size w w' := by
  have t1 : decide ((10000 : Int) < (n : Int)) = true := by simp; omega
  go_enter Try.func6, Try.ntmps6
  go_wp2_with (go_at_call 9; refine (awake_any _).mono ?_; rintro e w1 ⟨rfl, hb1⟩)
  go_ret
  exact ⟨rfl, hb1⟩

theorem lawAgain_walk (a : Option Addr) (n cap : Nat) (l : List UInt8) (w : World) (hB : IsBytes w (.slice a n cap) l) :
    Calls Try.prog 6 #[.slice a n cap] w fun e w' => e = .returned (.bool true) ∧ Below w.heap.size w w' := by
  by_cases hn : n ≤ 10000
  · exact lawAgain_in a n cap l w hB hn
  · exact lawAgain_big a n cap w (by omega)
end Go.Proofs.Ytnjdmkkifdiedaa
