/-
  The letter's body with a policy, or with nothing; the program's Encode.
-/
import Derived.Test.YtmogplecohkjcaaGreatDoorME5
namespace Msg15
open Go
open Pol8 hiding text right Right
theorem list_forty {m : Ms} (h : MRight m) : ∀ t ∈ listM m, t.length ≤ 40000 := by
  have hd : ∀ n : Nat, n ≤ 1000000 → (dec n).length ≤ 40000 := fun n hn => by have := dec_len n 6 (by omega); omega
  intro t ht
  unfold listM at ht
  have h1 := h.kind
  have h2 := h.fr
  have h3 := h.to
  have h4 := h.ep
  simp only [List.mem_cons] at ht
  rcases ht with rfl | rfl | rfl | rfl | ht
  · exact hd _ (by omega)
  · exact hd _ (by omega)
  · exact hd _ (by omega)
  · exact hd _ (by omega)
  · have hr : ∀ l, riseI l = true → l.length ≤ 64 ∧ ∀ x ∈ l, x.length ≤ 16 := fun l hl => by
      unfold riseI at hl
      simp only [Bool.and_eq_true, List.all_eq_true, decide_eq_true_eq] at hl
      exact ⟨hl.2.2, fun x hx => (hl.1 x hx).2⟩
    unfold body at ht
    split at ht
    · rcases List.mem_cons.1 ht with rfl | ht
      · exact hd _ (by have := (hr _ h.rids).1; omega)
      · have := (hr _ h.rids).2 t ht
        omega
    · split at ht
      · rcases List.mem_cons.1 ht with rfl | ht
        · have := (hr _ h.rposts).1
          rw [List.length_map] at this
          exact hd _ (by omega)
        · have h5 := (hr _ h.rposts).2
          have h6 := h.raws
          have : ∀ (l : List (L × L)), (∀ x ∈ l.map (·.1), x.length ≤ 16) → (∀ p ∈ l, p.2.length ≤ 2000) → ∀ x ∈ two l, x.length ≤ 40000 := by
            intro l
            induction l with
            | nil => intro _ _ x hx; cases hx
            | cons p l ih =>
              intro a b x hx
              rcases List.mem_cons.1 hx with rfl | hx
              · have := a p.1 (by simp)
                omega
              · rcases List.mem_cons.1 hx with rfl | hx
                · have := b p (List.mem_cons_self ..)
                  omega
                · exact ih (fun y hy => a y (by simp only [List.map_cons, List.mem_cons]; exact .inr hy)) (fun q hq => b q (List.mem_cons_of_mem _ hq)) x hx
          exact this m.posts h5 h6 t ht
      · split at ht
        · rename_i hk3
          rw [List.mem_singleton.1 ht]
          have := pol_len ((right_iff _).1 (h.rpol hk3))
          omega
        · cases ht
theorem flds_bound (K : Nat) (hK : K ≤ 1000000) : ∀ l : List L, (∀ t ∈ l, t.length ≤ K) → (flds l).length ≤ l.length * (K + 12)
  | [], _ => by simp [flds]
  | s :: l, h => by
    have h1 := flds_bound K hK l (fun t ht => h t (List.mem_cons_of_mem _ ht))
    have h2 := h s (List.mem_cons_self ..)
    have h3 := dec_len s.length 6 (by omega)
    have h4 : (fld s).length ≤ K + 12 := by
      unfold fld
      simp
      omega
    show (fld s ++ flds l).length ≤ (l.length + 1) * (K + 12)
    rw [List.length_append, Nat.add_mul, Nat.one_mul]
    omega
theorem riseI_len {l : List L} (h : riseI l = true) : l.length ≤ 64 ∧ ∀ x ∈ l, x.length ≤ 16 := by
  unfold riseI at h
  simp only [Bool.and_eq_true, List.all_eq_true, decide_eq_true_eq] at h
  exact ⟨h.2.2, fun x hx => (h.1 x hx).2⟩
theorem body_count {m : Ms} (h : MRight m) : (body m).length ≤ 129 := by
  have h1 := (riseI_len h.rids).1
  have h2 := (riseI_len h.rposts).1
  rw [List.length_map] at h2
  unfold body
  split
  · simp
    omega
  · split
    · simp only [List.length_cons, two_len]
      omega
    · split
      · simp
      · simp
theorem text_len {m : Ms} (h : MRight m) : (textM m).length ≤ 6000000 := by
  have h1 := flds_bound 40000 (by omega) (listM m) (list_forty h)
  have h2 : (listM m).length ≤ 133 := by
    have := body_count h
    show (body m).length + 1 + 1 + 1 + 1 ≤ 133
    omega
  have h3 : (listM m).length * (40000 + 12) ≤ 133 * 40012 := Nat.mul_le_mul_right _ h2
  show (flds (listM m)).length ≤ _
  omega
theorem textM_parts (m : Ms) : textM m = flds [dec m.kind.toNat, dec m.fr.toNat, dec m.to.toNat, dec m.ep.toNat] ++ flds (body m) := by
  rw [← flds_app]
  rfl
end Msg15
namespace Go.Proofs.YtmogplecohkjcaaGreatDoor
open Go.RowKit
open Utf1
open Pol8 hiding text right Right
open Msg15

set_option maxRecDepth 100000 in
set_option maxHeartbeats 16000000 in
theorem ebody_pol (w0 w : World) (B : Nat) (a : Nat → Value) (acc : L) (v1 v2 v3 v4 v5 : Value) (p : Pol) (l1 l2 l3 l4 l5 : List ByteArray) (h : LW w0 w0 w B a acc) (a0 : a 0 = .int .i64 3) (a6 : a 6 = .int .i64 p.ep) (a7 : a 7 = v1) (a8 : a 8 = v2) (a9 : a 9 = v3) (a10 : a 10 = v4) (a11 : a 11 = v5) (a12 : a 12 = .int .i64 p.dp) (a13 : a 13 = .int .i64 p.nd) (a14 : a 14 = .int .i64 p.bt) (hv : PolV w0 v1 v2 v3 v4 v5 p l1 l2 l3 l4 l5) (hf : fits p) (hr : Pol8.right p = true) (hL : acc.length ≤ 9000000) :
    Calls Tryz.prog 60 #[.pointer (some ⟨B, 0, none⟩)] w fun e w' => e = .returned (.tuple #[]) ∧ LW w0 w0 w' B a (acc ++ flds [Pol8.text p]) := by
  obtain ⟨T, hT⟩ : ∃ T : ByteArray, T = ⟨(Pol8.text p).toArray⟩ := ⟨_, rfl⟩
  have hTs : T.size ≤ 40000 := by
    rw [← bl_len, hT]
    exact pol_len ((right_iff p).1 hr)
  have HFT : Hid (acc ++ flds [Pol8.text p] = acc ++ fld (bl T)) := hide (by
    rw [hT]
    show acc ++ (fld (Pol8.text p) ++ []) = _
    rw [List.append_nil])
  rw [HFT.out]
  have C1 : Hid (∀ wx, LW w0 w0 wx B a acc → Calls Tryz.prog 76 #[.agg #[.int .i64 p.ep, v1, v2, v3, v4, v5, .int .i64 p.dp, .int .i64 p.nd, .int .i64 p.bt]] wx fun e w' => e = .returned (.tuple #[.string T, .int .i64 0]) ∧ LW w0 w0 w' B a acc) := hide (fun wx hx => by
    have := ptext_any v1 v2 v3 v4 v5 p l1 l2 l3 l4 l5 wx (hv.below hx.2.1.1) hf
    rw [if_pos hr, if_pos hr, ← hT] at this
    exact this.mono fun e w' ⟨h1, h2⟩ => ⟨h1, hx.keep h2⟩)
  have hgg := hv.g
  have C2 : Hid (∀ wx, LW w0 w0 wx B a acc → Calls Tryz.prog 75 #[.pointer (some ⟨B, 0, none⟩), .string T] wx fun e w' => e = .returned (.tuple #[]) ∧ LW w0 w0 w' B a (acc ++ fld (bl T))) := hide (fun wx hx => etext_any w0 w0 wx B a acc T hx hgg (by omega) (by omega))
  have HC : Hid (w.cell? ⟨B, 2, none⟩ = some (.int .i64 3) ∧ w.cell? ⟨B, 8, none⟩ = some (.int .i64 p.ep) ∧ w.cell? ⟨B, 9, none⟩ = some (v1) ∧ w.cell? ⟨B, 10, none⟩ = some (v2) ∧ w.cell? ⟨B, 11, none⟩ = some (v3) ∧ w.cell? ⟨B, 12, none⟩ = some (v4) ∧ w.cell? ⟨B, 13, none⟩ = some (v5) ∧ w.cell? ⟨B, 14, none⟩ = some (.int .i64 p.dp) ∧ w.cell? ⟨B, 15, none⟩ = some (.int .i64 p.nd) ∧ w.cell? ⟨B, 16, none⟩ = some (.int .i64 p.bt)) := hide (by
    rw [← a0, ← a6, ← a7, ← a8, ← a9, ← a10, ← a11, ← a12, ← a13, ← a14]
    exact ⟨h.cell 0 (by decide), h.cell 6 (by decide), h.cell 7 (by decide), h.cell 8 (by decide), h.cell 9 (by decide), h.cell 10 (by decide), h.cell 11 (by decide), h.cell 12 (by decide), h.cell 13 (by decide), h.cell 14 (by decide)⟩)
  have HW := hide h
  obtain ⟨q1, n1, m1, rfl⟩ : ∃ q n m, v1 = .slice q n m := by obtain ⟨q, c, e, -, -⟩ := hv.s1; exact ⟨_, _, _, e⟩
  obtain ⟨q2, n2, m2, rfl⟩ : ∃ q n m, v2 = .slice q n m := by obtain ⟨q, c, e, -, -⟩ := hv.s2; exact ⟨_, _, _, e⟩
  obtain ⟨q3, n3, m3, rfl⟩ : ∃ q n m, v3 = .slice q n m := by obtain ⟨q, c, e, -, -⟩ := hv.s3; exact ⟨_, _, _, e⟩
  obtain ⟨q4, n4, m4, rfl⟩ : ∃ q n m, v4 = .slice q n m := by obtain ⟨q, c, e, -, -⟩ := hv.s4; exact ⟨_, _, _, e⟩
  obtain ⟨q5, n5, m5, rfl⟩ : ∃ q n m, v5 = .slice q n m := by obtain ⟨q, c, e, -, -⟩ := hv.s5; exact ⟨_, _, _, e⟩
  obtain ⟨c0, c6, c7, c8, c9, c10, c11, c12, c13, c14⟩ := HC.out
  clear h hL hv hf hr hT hTs hgg a0 a6 a7 a8 a9 a10 a11 a12 a13 a14 HFT HC
  go_enter Tryz.func60, Tryz.ntmps60
  go_wp2_with fail
  refine (C1.out _ HW.out).mono ?_
  rintro e x1 ⟨rfl, k1⟩
  have K1 := hide k1
  clear k1 C1 HW c0 c6 c7 c8 c9 c10 c11 c12 c13 c14
  go_wp2_with fail
  refine (C2.out _ K1.out).mono ?_
  rintro e x2 ⟨rfl, k2⟩
  have K2 := hide k2
  clear k2 C2 K1
  go_wp2_with fail
  go_end0
  exact ⟨rfl, K2.out⟩
theorem ebody_ack (w0 w : World) (B : Nat) (a : Nat → Value) (acc : L) (h : LW w0 w0 w B a acc) (a0 : a 0 = .int .i64 4) :
    Calls Tryz.prog 60 #[.pointer (some ⟨B, 0, none⟩)] w fun e w' => e = .returned (.tuple #[]) ∧ LW w0 w0 w' B a acc := by
  have c0 := h.cell 0 (by decide)
  rw [a0] at c0
  have c0' : w.cell? ⟨B, 2, none⟩ = some (.int .i64 4) := c0
  have HW := hide h
  clear h c0 a0
  go_enter Tryz.func60, Tryz.ntmps60
  go_wp2_with fail
  go_end0
  exact ⟨rfl, HW.out⟩
end Go.Proofs.YtmogplecohkjcaaGreatDoor
