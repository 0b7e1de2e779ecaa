/-
  What the document's body answers.
-/
import Derived.Test.YtjmgcdeinjamiaaDoorX3
namespace Go.Proofs.YtjmgcdeinjamiaaDoor.Doc
open Go.RowKit
open Utf1

theorem idx0 (s : ByteArray) (c : UInt8) (t : List UInt8) (h : bl s = c :: t) : ∀ w, (Instr.index 9 (.string s) (.int .i64 0)).run Tryd.prog w = .ok (.int .u8 (c.toNat : Int)) w := by
  have hlt : 0 < s.size := by
    have := congrArg List.length h
    rw [bl_len, List.length_cons] at this
    omega
  have i0 : ∀ w, (Instr.index 9 (.string s) (.int .i64 0)).run Tryd.prog w = .ok (.int .u8 (atN ((bl s).drop 0) 0 : Nat)) w := idx_run s 0 0 hlt
  rw [List.drop_zero, h] at i0
  exact i0
theorem idxk (s : ByteArray) (k : Nat) (hk : k < s.size) : ∀ w, (Instr.index 9 (.string s) (.int .i64 (k : Int))).run Tryd.prog w = .ok (.int .u8 (((bl s)[k]'(by rw [bl_len]; exact hk)).toNat : Int)) w := by
  have i0 : ∀ w, (Instr.index 9 (.string s) (.int .i64 (k : Int))).run Tryd.prog w = .ok (.int .u8 (atN ((bl s).drop k) 0 : Nat)) w := idx_run s k 0 hk
  rw [atN_drop s k hk] at i0
  exact i0
theorem ext_tail (s : ByteArray) (c : UInt8) (t : List UInt8) (h : bl s = c :: t) : s.extract 1 s.size = ⟨t.toArray⟩ := by
  have e : bl (s.extract 1 s.size) = t := by
    rw [extract_bl, h]
    have := congrArg List.length h
    rw [bl_len, List.length_cons] at this
    rw [List.drop_succ_cons, List.drop_zero, List.take_of_length_le (by omega)]
  rw [mk_bl (s.extract 1 s.size), e]

theorem digB_none (b c : Nat) (hb : b ≤ 16) : digB b c = 99 ↔ ¬ dig c < b := by
  unfold digB
  split <;> rename_i h
  · constructor
    · intro e; omega
    · intro e; exact absurd h e
  · exact ⟨fun _ => h, fun _ => rfl⟩
theorem digB_some (b c : Nat) (h : dig c < b) : digB b c = dig c := by
  unfold digB
  rw [if_pos h]

theorem body_named (s : ByteArray) (w : World) (h : s.size < 2 ∨ (bl s).head? ≠ some 35) :
    Calls Tryd.prog 67 #[.string s] w fun e w' => e = .returned (optS (named (bl s))) ∧ Below w.heap.size w w' := by
  have hna := fun w => refNamed_any s w
  unfold optS at hna ⊢
  generalize oT (named (bl s)) = A at hna ⊢
  generalize (named (bl s)).isSome = B at hna ⊢
  by_cases h2 : s.size < 2
  · clear h
    go_enter Tryd.func67, Tryd.ntmps67
    go_wp2_with fail
    refine (hna _).mono ?_
    rintro e w1 ⟨rfl, hb1⟩
    go_wp2_with fail
    go_ret2
    exact ⟨rfl, hb1⟩
  · have h := h.resolve_left h2
    obtain ⟨c, t, hct⟩ : ∃ c t, bl s = c :: t := by
      cases hb : bl s with
      | nil =>
        have := bl_len s
        rw [hb] at this
        simp at this
        omega
      | cons c t => exact ⟨c, t, rfl⟩
    have i0 := idx0 s c t hct
    have hc35 : c ≠ 35 := by
      intro e
      rw [hct, e] at h
      exact h rfl
    obtain ⟨z, hz⟩ : ∃ z : Int, z = (c.toNat : Int) := ⟨_, rfl⟩
    rw [← hz] at i0
    have n35 : (z != 35) = true := bne_iff_ne.2 (by
      intro e
      apply hc35
      have : c = UInt8.ofNat 35 := (u8_eq (by decide)).2 (by omega)
      exact this)
    clear hz hc35 hct h
    go_enter Tryd.func67, Tryd.ntmps67
    go_wp2_with fail
    refine (hna _).mono ?_
    rintro e w1 ⟨rfl, hb1⟩
    go_wp2_with fail
    go_ret2
    exact ⟨rfl, hb1⟩

set_option maxHeartbeats 4000000 in
theorem body10 (s : ByteArray) (x : UInt8) (d : List UInt8) (w : World) (h : bl s = 35 :: x :: d) (hx : ¬ (x = 120 ∨ x = 88)) (hs : s.size ≤ 10000) :
    Calls Tryd.prog 67 #[.string s] w fun e w' => e = .returned (optS (sfN (x :: d))) ∧ Below w.heap.size w w' := by
  have i0 := idx0 s 35 (x :: d) h
  have i0 : ∀ w, (Instr.index 9 (.string s) (.int .i64 0)).run Tryd.prog w = .ok (.int .u8 35) w := i0
  have e1 := ext_tail s 35 (x :: d) h
  have i1 := idx0 ⟨(x :: d).toArray⟩ x d rfl
  have hbD : bl ⟨(x :: d).toArray⟩ = x :: d := rfl
  have hDs : (⟨(x :: d).toArray⟩ : ByteArray).size = d.length + 1 := by rw [size_mk]; rfl
  have hsl : s.size = d.length + 2 := by
    have := congrArg List.length h
    rw [bl_len, List.length_cons, List.length_cons] at this
    omega
  generalize (⟨(x :: d).toArray⟩ : ByteArray) = D at e1 i1 hbD hDs
  obtain ⟨z, hz⟩ : ∃ z : Int, z = (x.toNat : Int) := ⟨_, rfl⟩
  rw [← hz] at i1
  have nx : ∀ (n : Nat), n < 256 → x ≠ UInt8.ofNat n → (z == (n : Int)) = false := by
    intro n hn h
    refine beq_eq_false_iff_ne.2 ?_
    intro e
    exact h ((u8_eq hn).2 (by omega))
  have n1 : (z == 120) = false := nx 120 (by decide) (fun e => hx (.inl e))
  have n2 : (z == 88) = false := nx 88 (by decide) (fun e => hx (.inr e))
  have hD0 : D.size ≠ 0 := by omega
  have HF : Hid (sfN (x :: d) = if 6 < d.length then none else numS 10 (bl D)) := hide (by
    rw [hbD]
    unfold sfN
    simp only
    rw [if_neg hx])
  clear nx hz h hbD
  have hs2 : ¬ s.size < 2 := by omega
  by_cases hl : D.size ≤ 7
  · rw [HF.out, if_neg (by omega)]
    have hDl : 1 ≤ D.size := by omega
    clear hsl hDs HF hx
    go_enter Tryd.func67, Tryd.ntmps67
    go_wp2_with fail
    go_loop [7, 8] (fun vn vi => ∃ (k acc : Nat), vn = .int .i64 (acc : Int) ∧ vi = .int .i64 (k : Int) ∧ k ≤ D.size ∧ acc ≤ 16777215 ∧ Hid (acc < 10 ^ k ∧ num 10 0 (bl D) = num 10 acc ((bl D).drop k))) (fun _ vi => D.size - (intOf vi).toNat)
    case atStart => exact ⟨0, 0, rfl, rfl, by omega, by omega, hide ⟨by decide, rfl⟩⟩
    case round =>
      obtain ⟨k, acc, rfl, rfl, hk, hac, HH⟩ := hrel
      by_cases hkn : k < D.size
      · have ik := idxk D k hkn
        have hdr : (bl D).drop k = (bl D)[k]'(by rw [bl_len]; exact hkn) :: (bl D).drop (k + 1) := List.drop_eq_getElem_cons _
        generalize (bl D)[k]'(by rw [bl_len]; exact hkn) = c at ik hdr
        have hdg := fun w => digit_any c 10 (.inl rfl) w
        have hdg : ∀ w, Calls Tryd.prog 76 #[.int .u8 (c.toNat : Int), .int .i64 10] w fun e w' => e = .returned (.int .i64 (digB 10 c.toNat : Nat)) ∧ w' = w := hdg
        obtain ⟨z, hz⟩ : ∃ z : Int, z = (c.toNat : Int) := ⟨_, rfl⟩
        rw [← hz] at ik hdg
        clear hz
        have hpw : 10 ^ k ≤ 1000000 := by
          have : 10 ^ k ≤ 10 ^ 6 := Nat.pow_le_pow_right (by decide) (by omega)
          have e : 10 ^ 6 = 1000000 := by decide
          omega
        have hps : 10 ^ (k + 1) = 10 ^ k * 10 := Nat.pow_succ ..
        by_cases hd : dig c.toNat < 10
        · have e := digB_some 10 c.toNat hd
          have HN : Hid (acc * 10 + dig c.toNat < 10 ^ (k + 1) ∧ num 10 0 (bl D) = num 10 (acc * 10 + dig c.toNat) ((bl D).drop (k + 1))) := hide ⟨by have := HH.out.1; omega, by rw [HH.out.2, hdr, num_cons, if_pos hd]⟩
          have hnew : acc * 10 + dig c.toNat ≤ 16777215 := by have := HH.out.1; omega
          rw [e] at hdg
          obtain ⟨v, hv⟩ : ∃ v : Nat, v = dig c.toNat := ⟨_, rfl⟩
          rw [← hv] at hdg HN hd hnew
          have n99 : ((v : Int) == 99) = false := beq_eq_false_iff_ne.2 (by omega)
          clear hv e HH hdr hpw hps
          go_wp2_with fail
          refine (hdg _).mono ?_
          rintro e w3 ⟨rfl, rfl⟩
          go_wp2_with fail
          exact ⟨⟨k + 1, acc * 10 + v, by first | rfl | simp, by first | rfl | simp, by omega, hnew, HN⟩, by simp [intOf]; omega⟩
        · have e := (digB_none 10 c.toNat (by decide)).2 hd
          rw [e] at hdg
          have hdg : ∀ w, Calls Tryd.prog 76 #[.int .u8 z, .int .i64 10] w fun e w' => e = .returned (.int .i64 99) ∧ w' = w := hdg
          have HR : Hid (numS 10 (bl D) = none) := hide (by
            unfold numS
            rw [HH.out.2, hdr, num_cons, if_neg hd]
            split <;> rfl)
          clear e HH hdr hpw hps hd
          go_wp2_with fail
          refine (hdg _).mono ?_
          rintro e w3 ⟨rfl, rfl⟩
          go_wp2_with fail
          go_ret2
          rw [HR.out]
          exact ⟨rfl, Below.refl _ _⟩
      · have HR : Hid (numS 10 (bl D) = some (chN acc)) := hide (by
          unfold numS
          rw [if_neg (fun e => hD0 (bl_nil.1 e)), HH.out.2, drop_all D k hkn]
          rfl)
        have hch := fun w => char_any acc hac w
        clear HH
        go_wp2_with fail
        refine (hch _).mono ?_
        rintro e w3 ⟨rfl, hb3⟩
        go_wp2_with fail
        go_ret2
        rw [HR.out]
        exact ⟨rfl, hb3⟩
  · rw [HF.out, if_pos (by omega)]
    clear hsl hDs HF hx
    go_enter Tryd.func67, Tryd.ntmps67
    go_wp2_with fail
    go_ret2
    exact ⟨rfl, Below.refl _ _⟩

set_option maxHeartbeats 4000000 in
theorem body16 (s : ByteArray) (x : UInt8) (d : List UInt8) (w : World) (h : bl s = 35 :: x :: d) (hx : x = 120 ∨ x = 88) (hs : s.size ≤ 10000) :
    Calls Tryd.prog 67 #[.string s] w fun e w' => e = .returned (optS (sfN (x :: d))) ∧ Below w.heap.size w w' := by
  have i0 := idx0 s 35 (x :: d) h
  have i0 : ∀ w, (Instr.index 9 (.string s) (.int .i64 0)).run Tryd.prog w = .ok (.int .u8 35) w := i0
  have e1 := ext_tail s 35 (x :: d) h
  have i1 := idx0 ⟨(x :: d).toArray⟩ x d rfl
  have e2 := ext_tail ⟨(x :: d).toArray⟩ x d rfl
  have hTs : (⟨(x :: d).toArray⟩ : ByteArray).size = d.length + 1 := by rw [size_mk]; rfl
  have hbD : bl ⟨d.toArray⟩ = d := rfl
  have hDs : (⟨d.toArray⟩ : ByteArray).size = d.length := size_mk d
  have hsl : s.size = d.length + 2 := by
    have := congrArg List.length h
    rw [bl_len, List.length_cons, List.length_cons] at this
    omega
  generalize (⟨(x :: d).toArray⟩ : ByteArray) = T at e1 i1 e2 hTs
  generalize (⟨d.toArray⟩ : ByteArray) = D at e2 hbD hDs
  obtain ⟨z, hz⟩ : ∃ z : Int, z = (x.toNat : Int) := ⟨_, rfl⟩
  rw [← hz] at i1
  have HF : Hid (sfN (x :: d) = if 6 < d.length then none else numS 16 (bl D)) := hide (by
    rw [hbD]
    unfold sfN
    simp only
    rw [if_pos hx])
  have hzz : z = 120 ∨ z = 88 := by
    rcases hx with e | e
    · left; rw [hz, e]; rfl
    · right; rw [hz, e]; rfl
  have hs2 : ¬ s.size < 2 := by omega
  have hT1 : 1 ≤ T.size := by omega
  by_cases hl : 1 ≤ D.size ∧ D.size ≤ 6
  · obtain ⟨hDl, hl⟩ := hl
    have hD0 : D.size ≠ 0 := by omega
    rw [HF.out, if_neg (by omega)]
    have hTb : T.size ≤ 100 := by omega
    clear hsl hDs hTs HF hx hz h hbD
    rcases hzz with rfl | rfl
    · go_enter Tryd.func67, Tryd.ntmps67
      go_wp2_with fail
      go_loop [7, 8] (fun vn vi => ∃ (k acc : Nat), vn = .int .i64 (acc : Int) ∧ vi = .int .i64 (k : Int) ∧ k ≤ D.size ∧ acc ≤ 16777215 ∧ Hid (acc < 16 ^ k ∧ num 16 0 (bl D) = num 16 acc ((bl D).drop k))) (fun _ vi => D.size - (intOf vi).toNat)
      case atStart => exact ⟨0, 0, rfl, rfl, by omega, by omega, hide ⟨by decide, rfl⟩⟩
      case round =>
        obtain ⟨k, acc, rfl, rfl, hk, hac, HH⟩ := hrel
        by_cases hkn : k < D.size
        · have ik := idxk D k hkn
          have hdr : (bl D).drop k = (bl D)[k]'(by rw [bl_len]; exact hkn) :: (bl D).drop (k + 1) := List.drop_eq_getElem_cons _
          generalize (bl D)[k]'(by rw [bl_len]; exact hkn) = c at ik hdr
          have hdg := fun w => digit_any c 16 (.inr rfl) w
          have hdg : ∀ w, Calls Tryd.prog 76 #[.int .u8 (c.toNat : Int), .int .i64 16] w fun e w' => e = .returned (.int .i64 (digB 16 c.toNat : Nat)) ∧ w' = w := hdg
          obtain ⟨z, hz⟩ : ∃ z : Int, z = (c.toNat : Int) := ⟨_, rfl⟩
          rw [← hz] at ik hdg
          clear hz
          have hpw : 16 ^ k ≤ 1048576 := by
            have : 16 ^ k ≤ 16 ^ 5 := Nat.pow_le_pow_right (by decide) (by omega)
            have e : 16 ^ 5 = 1048576 := by decide
            omega
          have hps : 16 ^ (k + 1) = 16 ^ k * 16 := Nat.pow_succ ..
          by_cases hd : dig c.toNat < 16
          · have e := digB_some 16 c.toNat hd
            have HN : Hid (acc * 16 + dig c.toNat < 16 ^ (k + 1) ∧ num 16 0 (bl D) = num 16 (acc * 16 + dig c.toNat) ((bl D).drop (k + 1))) := hide ⟨by have := HH.out.1; omega, by rw [HH.out.2, hdr, num_cons, if_pos hd]⟩
            have hnew : acc * 16 + dig c.toNat ≤ 16777215 := by have := HH.out.1; omega
            rw [e] at hdg
            obtain ⟨v, hv⟩ : ∃ v : Nat, v = dig c.toNat := ⟨_, rfl⟩
            rw [← hv] at hdg HN hd hnew
            have n99 : ((v : Int) == 99) = false := beq_eq_false_iff_ne.2 (by omega)
            clear hv e HH hdr hpw hps
            go_wp2_with fail
            refine (hdg _).mono ?_
            rintro e w3 ⟨rfl, rfl⟩
            go_wp2_with fail
            exact ⟨⟨k + 1, acc * 16 + v, by first | rfl | simp, by first | rfl | simp, by omega, hnew, HN⟩, by simp [intOf]; omega⟩
          · have e := (digB_none 16 c.toNat (by decide)).2 hd
            rw [e] at hdg
            have hdg : ∀ w, Calls Tryd.prog 76 #[.int .u8 z, .int .i64 16] w fun e w' => e = .returned (.int .i64 99) ∧ w' = w := hdg
            have HR : Hid (numS 16 (bl D) = none) := hide (by
              unfold numS
              rw [HH.out.2, hdr, num_cons, if_neg hd]
              split <;> rfl)
            clear e HH hdr hpw hps hd
            go_wp2_with fail
            refine (hdg _).mono ?_
            rintro e w3 ⟨rfl, rfl⟩
            go_wp2_with fail
            go_ret2
            rw [HR.out]
            exact ⟨rfl, Below.refl _ _⟩
        · have HR : Hid (numS 16 (bl D) = some (chN acc)) := hide (by
            unfold numS
            rw [if_neg (fun e => hD0 (bl_nil.1 e)), HH.out.2, drop_all D k hkn]
            rfl)
          have hch := fun w => char_any acc hac w
          clear HH
          go_wp2_with fail
          refine (hch _).mono ?_
          rintro e w3 ⟨rfl, hb3⟩
          go_wp2_with fail
          go_ret2
          rw [HR.out]
          exact ⟨rfl, hb3⟩
    · go_enter Tryd.func67, Tryd.ntmps67
      go_wp2_with fail
      go_loop [7, 8] (fun vn vi => ∃ (k acc : Nat), vn = .int .i64 (acc : Int) ∧ vi = .int .i64 (k : Int) ∧ k ≤ D.size ∧ acc ≤ 16777215 ∧ Hid (acc < 16 ^ k ∧ num 16 0 (bl D) = num 16 acc ((bl D).drop k))) (fun _ vi => D.size - (intOf vi).toNat)
      case atStart => exact ⟨0, 0, rfl, rfl, by omega, by omega, hide ⟨by decide, rfl⟩⟩
      case round =>
        obtain ⟨k, acc, rfl, rfl, hk, hac, HH⟩ := hrel
        by_cases hkn : k < D.size
        · have ik := idxk D k hkn
          have hdr : (bl D).drop k = (bl D)[k]'(by rw [bl_len]; exact hkn) :: (bl D).drop (k + 1) := List.drop_eq_getElem_cons _
          generalize (bl D)[k]'(by rw [bl_len]; exact hkn) = c at ik hdr
          have hdg := fun w => digit_any c 16 (.inr rfl) w
          have hdg : ∀ w, Calls Tryd.prog 76 #[.int .u8 (c.toNat : Int), .int .i64 16] w fun e w' => e = .returned (.int .i64 (digB 16 c.toNat : Nat)) ∧ w' = w := hdg
          obtain ⟨z, hz⟩ : ∃ z : Int, z = (c.toNat : Int) := ⟨_, rfl⟩
          rw [← hz] at ik hdg
          clear hz
          have hpw : 16 ^ k ≤ 1048576 := by
            have : 16 ^ k ≤ 16 ^ 5 := Nat.pow_le_pow_right (by decide) (by omega)
            have e : 16 ^ 5 = 1048576 := by decide
            omega
          have hps : 16 ^ (k + 1) = 16 ^ k * 16 := Nat.pow_succ ..
          by_cases hd : dig c.toNat < 16
          · have e := digB_some 16 c.toNat hd
            have HN : Hid (acc * 16 + dig c.toNat < 16 ^ (k + 1) ∧ num 16 0 (bl D) = num 16 (acc * 16 + dig c.toNat) ((bl D).drop (k + 1))) := hide ⟨by have := HH.out.1; omega, by rw [HH.out.2, hdr, num_cons, if_pos hd]⟩
            have hnew : acc * 16 + dig c.toNat ≤ 16777215 := by have := HH.out.1; omega
            rw [e] at hdg
            obtain ⟨v, hv⟩ : ∃ v : Nat, v = dig c.toNat := ⟨_, rfl⟩
            rw [← hv] at hdg HN hd hnew
            have n99 : ((v : Int) == 99) = false := beq_eq_false_iff_ne.2 (by omega)
            clear hv e HH hdr hpw hps
            go_wp2_with fail
            refine (hdg _).mono ?_
            rintro e w3 ⟨rfl, rfl⟩
            go_wp2_with fail
            exact ⟨⟨k + 1, acc * 16 + v, by first | rfl | simp, by first | rfl | simp, by omega, hnew, HN⟩, by simp [intOf]; omega⟩
          · have e := (digB_none 16 c.toNat (by decide)).2 hd
            rw [e] at hdg
            have hdg : ∀ w, Calls Tryd.prog 76 #[.int .u8 z, .int .i64 16] w fun e w' => e = .returned (.int .i64 99) ∧ w' = w := hdg
            have HR : Hid (numS 16 (bl D) = none) := hide (by
              unfold numS
              rw [HH.out.2, hdr, num_cons, if_neg hd]
              split <;> rfl)
            clear e HH hdr hpw hps hd
            go_wp2_with fail
            refine (hdg _).mono ?_
            rintro e w3 ⟨rfl, rfl⟩
            go_wp2_with fail
            go_ret2
            rw [HR.out]
            exact ⟨rfl, Below.refl _ _⟩
        · have HR : Hid (numS 16 (bl D) = some (chN acc)) := hide (by
            unfold numS
            rw [if_neg (fun e => hD0 (bl_nil.1 e)), HH.out.2, drop_all D k hkn]
            rfl)
          have hch := fun w => char_any acc hac w
          clear HH
          go_wp2_with fail
          refine (hch _).mono ?_
          rintro e w3 ⟨rfl, hb3⟩
          go_wp2_with fail
          go_ret2
          rw [HR.out]
          exact ⟨rfl, hb3⟩
  · have HN : Hid ((if 6 < d.length then none else numS 16 (bl D)) = none) := hide (by
      split
      · rfl
      · rename_i h6
        have : D.size = 0 := by omega
        rw [bl_nil.2 this]
        rfl)
    rw [HF.out, HN.out]
    by_cases h0 : D.size < 1
    · clear hsl hDs hTs HF hx hz h hbD HN hl
      rcases hzz with rfl | rfl
      · go_enter Tryd.func67, Tryd.ntmps67
        go_wp2_with fail
        go_ret2
        exact ⟨rfl, Below.refl _ _⟩
      · go_enter Tryd.func67, Tryd.ntmps67
        go_wp2_with fail
        go_ret2
        exact ⟨rfl, Below.refl _ _⟩
    · have h7 : 6 < D.size := by omega
      clear hsl hDs hTs HF hx hz h hbD HN hl
      rcases hzz with rfl | rfl
      · go_enter Tryd.func67, Tryd.ntmps67
        go_wp2_with fail
        go_ret2
        exact ⟨rfl, Below.refl _ _⟩
      · go_enter Tryd.func67, Tryd.ntmps67
        go_wp2_with fail
        go_ret2
        exact ⟨rfl, Below.refl _ _⟩

theorem body_any (s : ByteArray) (hs : s.size ≤ 10000) (w : World) :
    Calls Tryd.prog 67 #[.string s] w fun e w' => e = .returned (optS (sf (bl s))) ∧ Below w.heap.size w w' := by
  cases hb : bl s with
  | nil =>
    have h := body_named s w (.inl (by rw [← bl_len, hb]; decide))
    rw [hb, named_nil] at h
    exact h
  | cons c t =>
    by_cases hc : c = 35
    · subst hc
      cases t with
      | nil =>
        have h := body_named s w (.inl (by rw [← bl_len, hb]; decide))
        rw [hb, show named [35] = none by decide] at h
        exact h
      | cons x d =>
        by_cases hx : x = 120 ∨ x = 88
        · exact body16 s x d w hb hx hs
        · exact body10 s x d w hb hx hs
    · have h := body_named s w (.inr (by rw [hb]; simpa using hc))
      rw [hb] at h
      have e : sf (c :: t) = named (c :: t) := by
        unfold sf
        simp only
        rw [if_neg hc]
      rw [e]
      exact h
end Go.Proofs.YtjmgcdeinjamiaaDoor.Doc
