/-
  The law UtfParts, walked: it answers true at every text and every number.
-/
import Derived.Test.YtnjdmkkifdiedaaW5
import Derived.Deep.RegionWith
namespace Go.Proofs.Ytnjdmkkifdiedaa
open Go.RowKit
open Utf1

theorem wpAny_to {P : Program} {md : Region.Mode} {ops : Array Oper} {Q : Exit → Act → World → Prop} {i : Nat} {oi : Oper} {v : Value} {fuel : Nat} {listed : Array Bool} {a a' : Act} {w : World} (hi : ops[i]? = some oi)
    (hs : Region.noSelect ops = true) (hf : Region.free md ops listed i = true) (hr : (Region.ready md ops listed).contains i = true)
    (hQ : ∀ c a w, Q (.panic c) (a.put oi.dst v) w → Q (.panic c) a w) (hy : Yields P ops oi v a) (ha : a.put oi.dst v = a')
    (h : wpAny P md ops Q fuel (listed.setIfInBounds i true) a' w) : wpAny P md ops Q (fuel + 1) listed a w :=
  wpAny_take hi hs hf hr hQ hy (ha ▸ h)

theorem runes_le (l : List UInt8) : (runes l).length ≤ l.length := by
  induction h : l.length using Nat.strongRecOn generalizing l with
  | ind m ih =>
    by_cases hl : l = []
    · subst hl; simp [runes_nil]
    · have hw := dl_width l hl
      rw [runes_step l hl, List.length_cons]
      have := ih (l.drop (dl l).2).length (by simp; omega) _ rfl
      simp at this
      omega

theorem parts_below {w w1 w2 w3 w4 w5 : World} (hb1 : Below w.heap.size w w1) (hb2 : Below w1.heap.size w1 w2) (hb3 : Below w2.drew.heap.size w2.drew w3)
    (hb4 : Below w3.heap.size w3 w4) (hb5 : Below w4.heap.size w4 w5) : Below w.heap.size w w5 := by
  have s1 := hb1.size
  have s2 := hb2.size
  have s3 := hb3.size
  have s4 := hb4.size
  have e : w2.drew.heap.size = w2.heap.size := rfl
  exact (((hb1.trans (hb2.mono s1)).drew).trans (hb3.mono (by omega))).trans ((hb4.mono (by omega)).trans (hb5.mono (by omega)))

set_option maxHeartbeats 4000000 in
theorem lawParts_all (s A : ByteArray) (n : Int) (m1 m2 m : Nat) (w : World) (hs : s.size ≤ 10000) (hn0 : 0 ≤ n) (hn1 : n ≤ 20000)
    (hA1 : (A.size : Int) ≤ n) (hA2 : A.size ≤ s.size) (hpre : ((s.extract 0 A.size).toList == A.toList) = true) (hm : (((m1 : Int) + (m2 : Int)) == (m : Int)) = true) (b1 : m1 ≤ 10000) (b2 : m2 ≤ 10000)
    (hleft : ((s.size : Int) - (A.size : Int) == 0) = true)
    (C : Hid (∀ w : World, Calls Try.prog 18 #[.string s, .int .i64 n] w fun e w' => e = .returned (.string A) ∧ Below w.heap.size w w'))
    (M1 : Hid (∀ w : World, Calls Try.prog 14 #[.string A] w fun e w' => e = .returned (.int .i64 m1) ∧ Below w.heap.size w w'))
    (M2 : Hid (∀ w : World, Calls Try.prog 14 #[.string (s.extract A.size s.size)] w fun e w' => e = .returned (.int .i64 m2) ∧ Below w.heap.size w w'))
    (M : Hid (∀ w : World, Calls Try.prog 14 #[.string s] w fun e w' => e = .returned (.int .i64 m) ∧ Below w.heap.size w w')) :
    Calls Try.prog 7 #[.string s, .int .i64 n] w fun e w' => e = .returned (.bool true) ∧ Below w.heap.size w w' := by
  have t1 : decide ((10000 : Int) < (s.size : Int)) = false := by simp; omega
  have t2 : decide (n < 0) = false := by simp; omega
  have t3 : decide (20000 < n) = false := by simp; omega
  have t4 : decide (n < (A.size : Int)) = false := by simp; omega
  have t5 : decide (s.size < A.size) = false := by simp; omega
  have HM := hide hm
  have HL := hide hleft
  clear hm hleft
  go_enter Try.func7, Try.ntmps7
  go_wp2_with fail
  refine (awake_any _).mono ?_
  rintro e w1 ⟨rfl, hb1⟩
  go_wp2_with fail
  refine (C.out _).mono ?_
  rintro e w2 ⟨rfl, hb2⟩
  go_wp2_with fail
  clear hpre t1 t2 t3 t4 t5 C
  refine wp_region_any (by kernel_rfl) ?_
  try (change wpAny _ _ _ _ _ _ _ (World.drew _))
  refine wpAny_to (i := 0) (v := .bool true) (a' := ?ax0) rfl (by kernel_rfl) (by kernel_rfl) (by kernel_rfl) (fun _ _ _ h => h) (Or.inl ⟨by rfl, ?yi⟩) ?ha ?_
  case yi => intro w; go_simp
  case ha => go_simp; exact rfl
  refine wpAny_to (i := 1) (v := .bool true) (a' := ?ax1) rfl (by kernel_rfl) (by kernel_rfl) (by kernel_rfl) (fun _ _ _ h => h) (Or.inl ⟨by rfl, ?yi⟩) ?ha ?_
  case yi => intro w; go_simp
  case ha => go_simp; exact rfl
  refine wpAny_to (i := 2) (v := .string A) (a' := ?ax2) rfl (by kernel_rfl) (by kernel_rfl) (by kernel_rfl) (fun _ _ _ h => h) (Or.inl ⟨by rfl, ?yi⟩) ?ha ?_
  case yi => intro w; go_simp
  case ha => go_simp; exact rfl
  refine wpAny_to (i := 4) (v := .string s) (a' := ?ax4) rfl (by kernel_rfl) (by kernel_rfl) (by kernel_rfl) (fun _ _ _ h => h) (Or.inl ⟨by rfl, ?yi⟩) ?ha ?_
  case yi => intro w; go_simp
  case ha => go_simp; exact rfl
  refine wpAny_to (i := 5) (v := .string A) (a' := ?ax5) rfl (by kernel_rfl) (by kernel_rfl) (by kernel_rfl) (fun _ _ _ h => h) (Or.inl ⟨by rfl, ?yi⟩) ?ha ?_
  case yi => intro w; go_simp
  case ha => go_simp; exact rfl
  refine wpAny_to (i := 6) (v := .int .i64 A.size) (a' := ?ax6) rfl (by kernel_rfl) (by kernel_rfl) (by kernel_rfl) (fun _ _ _ h => h) (Or.inl ⟨by rfl, ?yi⟩) ?ha ?_
  case yi => intro w; go_simp
  case ha => go_simp; exact rfl
  refine wpAny_to (i := 10) (v := .string s) (a' := ?ax10) rfl (by kernel_rfl) (by kernel_rfl) (by kernel_rfl) (fun _ _ _ h => h) (Or.inl ⟨by rfl, ?yi⟩) ?ha ?_
  case yi => intro w; go_simp
  case ha => go_simp; exact rfl
  refine wpAny_to (i := 7) (v := .string (s.extract A.size s.size)) (a' := ?ax7) rfl (by kernel_rfl) (by kernel_rfl) (by kernel_rfl) (fun _ _ _ h => h) (Or.inl ⟨by rfl, ?yi⟩) ?ha ?_
  case yi => intro w; go_simp
  case ha => go_simp; exact rfl
  refine wpAny_ready (rs := [3]) (by kernel_rfl) (by simp) ?_
  refine AllReady.cons rfl (fun K hK => ?_) AllReady.nil
  go_simp
  go_wp2_with fail
  refine (M1.out _).mono ?_
  rintro e w3 ⟨rfl, hb3⟩
  go_wp2_with fail
  refine wpAny_ready (rs := [8]) (by kernel_rfl) (by simp) ?_
  refine AllReady.cons rfl (fun K hK => ?_) AllReady.nil
  go_simp
  go_wp2_with fail
  refine (M2.out _).mono ?_
  rintro e w4 ⟨rfl, hb4⟩
  go_wp2_with fail
  refine wpAny_to (i := 9) (v := .int .i64 ((m1 : Int) + (m2 : Int))) (a' := ?ax9) rfl (by kernel_rfl) (by kernel_rfl) (by kernel_rfl) (fun _ _ _ h => h) (Or.inl ⟨by rfl, ?yi⟩) ?ha ?_
  case yi => intro w; go_simp; exact IntWalk.i64_in _ (by omega)
  case ha => go_simp; exact rfl
  refine wpAny_ready (rs := [11]) (by kernel_rfl) (by simp) ?_
  refine AllReady.cons rfl (fun K hK => ?_) AllReady.nil
  go_simp
  go_wp2_with fail
  refine (M.out _).mono ?_
  rintro e w5 ⟨rfl, hb5⟩
  go_wp2_with fail
  have hm := HM.out
  refine wpAny_to (i := 12) (v := .bool true) (a' := ?ax12) rfl (by kernel_rfl) (by kernel_rfl) (by kernel_rfl) (fun _ _ _ h => h) (Or.inl ⟨by rfl, ?yi⟩) ?ha ?_
  case yi => intro w; go_simp
  case ha => go_simp; exact rfl
  refine wpAny_to (i := 13) (v := .bool true) (a' := ?ax13) rfl (by kernel_rfl) (by kernel_rfl) (by kernel_rfl) (fun _ _ _ h => h) (Or.inl ⟨by rfl, ?yi⟩) ?ha ?_
  case yi => intro w; go_simp
  case ha => go_simp; exact rfl
  refine wpAny_to (i := 14) (v := .bool true) (a' := ?ax14) rfl (by kernel_rfl) (by kernel_rfl) (by kernel_rfl) (fun _ _ _ h => h) (Or.inl ⟨by rfl, ?yi⟩) ?ha ?_
  case yi => intro w; go_simp
  case ha => go_simp; exact rfl
  refine wpAny_to (i := 15) (v := .int .i64 ((s.size : Int) - (A.size : Int))) (a' := ?ax15) rfl (by kernel_rfl) (by kernel_rfl) (by kernel_rfl) (fun _ _ _ h => h) (Or.inl ⟨by rfl, ?yi⟩) ?ha ?_
  case yi => intro w; go_simp
  case ha => go_simp; exact rfl
  have hleft := HL.out
  refine wpAny_to (i := 16) (v := .bool true) (a' := ?ax16) rfl (by kernel_rfl) (by kernel_rfl) (by kernel_rfl) (fun _ _ _ h => h) (Or.inl ⟨by rfl, ?yi⟩) ?ha ?_
  case yi => intro w; go_simp
  case ha => go_simp; exact rfl
  clear hleft hm
  refine wpAny_to (i := 17) (v := .bool true) (a' := ?ax17) rfl (by kernel_rfl) (by kernel_rfl) (by kernel_rfl) (fun _ _ _ h => h) (Or.inl ⟨by rfl, ?yi⟩) ?ha ?_
  case yi => intro w; go_simp
  case ha => go_simp; exact rfl
  refine wpAny_to (i := 18) (v := undef) (a' := ?ax18) rfl (by kernel_rfl) (by kernel_rfl) (by kernel_rfl) (fun _ _ _ h => h) (Or.inr ⟨by rfl, rfl⟩) ?ha ?_
  case ha => go_simp; exact rfl
  refine wpAny_to (i := 19) (v := undef) (a' := ?ax19) rfl (by kernel_rfl) (by kernel_rfl) (by kernel_rfl) (fun _ _ _ h => h) (Or.inr ⟨by rfl, rfl⟩) ?ha ?_
  case ha => go_simp; exact rfl
  refine wpAny_to (i := 20) (v := undef) (a' := ?ax20) rfl (by kernel_rfl) (by kernel_rfl) (by kernel_rfl) (fun _ _ _ h => h) (Or.inr ⟨by rfl, rfl⟩) ?ha ?_
  case ha => go_simp; exact rfl
  refine wpAny_to (i := 21) (v := undef) (a' := ?ax21) rfl (by kernel_rfl) (by kernel_rfl) (by kernel_rfl) (fun _ _ _ h => h) (Or.inr ⟨by rfl, rfl⟩) ?ha ?_
  case ha => go_simp; exact rfl
  refine wpAny_to (i := 22) (v := undef) (a' := ?ax22) rfl (by kernel_rfl) (by kernel_rfl) (by kernel_rfl) (fun _ _ _ h => h) (Or.inr ⟨by rfl, rfl⟩) ?ha ?_
  case ha => go_simp; exact rfl
  refine wpAny_to (i := 23) (v := .bool true) (a' := ?ax23) rfl (by kernel_rfl) (by kernel_rfl) (by kernel_rfl) (fun _ _ _ h => h) (Or.inl ⟨by rfl, ?yi⟩) ?ha ?_
  case yi => intro w; go_simp
  case ha => go_simp; exact rfl
  refine wpAny_to (i := 24) (v := .bool true) (a' := ?ax24) rfl (by kernel_rfl) (by kernel_rfl) (by kernel_rfl) (fun _ _ _ h => h) (Or.inl ⟨by rfl, ?yi⟩) ?ha ?_
  case yi => intro w; go_simp
  case ha => go_simp; exact rfl
  refine wpAny_to (i := 25) (v := .bool true) (a' := ?ax25) rfl (by kernel_rfl) (by kernel_rfl) (by kernel_rfl) (fun _ _ _ h => h) (Or.inl ⟨by rfl, ?yi⟩) ?ha ?_
  case yi => intro w; go_simp
  case ha => go_simp; exact rfl
  refine wpAny_done (by kernel_rfl) ?_ _
  go_wp2_with fail
  go_ret
  exact ⟨rfl, parts_below hb1 hb2 hb3 hb4 hb5⟩

set_option maxHeartbeats 4000000 in
theorem lawParts_some (s A : ByteArray) (n : Int) (m1 m2 m : Nat) (w : World) (hs : s.size ≤ 10000) (hn0 : 0 ≤ n) (hn1 : n ≤ 20000)
    (hA1 : (A.size : Int) ≤ n) (hA2 : A.size ≤ s.size) (hpre : ((s.extract 0 A.size).toList == A.toList) = true) (hm : (((m1 : Int) + (m2 : Int)) == (m : Int)) = true) (b1 : m1 ≤ 10000) (b2 : m2 ≤ 10000)
    (hleft : ((s.size : Int) - (A.size : Int) == 0) = false) (hnear : n - (A.size : Int) < 4)
    (C : Hid (∀ w : World, Calls Try.prog 18 #[.string s, .int .i64 n] w fun e w' => e = .returned (.string A) ∧ Below w.heap.size w w'))
    (M1 : Hid (∀ w : World, Calls Try.prog 14 #[.string A] w fun e w' => e = .returned (.int .i64 m1) ∧ Below w.heap.size w w'))
    (M2 : Hid (∀ w : World, Calls Try.prog 14 #[.string (s.extract A.size s.size)] w fun e w' => e = .returned (.int .i64 m2) ∧ Below w.heap.size w w'))
    (M : Hid (∀ w : World, Calls Try.prog 14 #[.string s] w fun e w' => e = .returned (.int .i64 m) ∧ Below w.heap.size w w')) :
    Calls Try.prog 7 #[.string s, .int .i64 n] w fun e w' => e = .returned (.bool true) ∧ Below w.heap.size w w' := by
  have t1 : decide ((10000 : Int) < (s.size : Int)) = false := by simp; omega
  have t2 : decide (n < 0) = false := by simp; omega
  have t3 : decide (20000 < n) = false := by simp; omega
  have t4 : decide (n < (A.size : Int)) = false := by simp; omega
  have t5 : decide (s.size < A.size) = false := by simp; omega
  have HM := hide hm
  have HL := hide hleft
  clear hm hleft
  go_enter Try.func7, Try.ntmps7
  go_wp2_with fail
  refine (awake_any _).mono ?_
  rintro e w1 ⟨rfl, hb1⟩
  go_wp2_with fail
  refine (C.out _).mono ?_
  rintro e w2 ⟨rfl, hb2⟩
  go_wp2_with fail
  clear hpre t1 t2 t3 t4 t5 C
  refine wp_region_any (by kernel_rfl) ?_
  try (change wpAny _ _ _ _ _ _ _ (World.drew _))
  refine wpAny_to (i := 0) (v := .bool true) (a' := ?ax0) rfl (by kernel_rfl) (by kernel_rfl) (by kernel_rfl) (fun _ _ _ h => h) (Or.inl ⟨by rfl, ?yi⟩) ?ha ?_
  case yi => intro w; go_simp
  case ha => go_simp; exact rfl
  refine wpAny_to (i := 1) (v := .bool true) (a' := ?ax1) rfl (by kernel_rfl) (by kernel_rfl) (by kernel_rfl) (fun _ _ _ h => h) (Or.inl ⟨by rfl, ?yi⟩) ?ha ?_
  case yi => intro w; go_simp
  case ha => go_simp; exact rfl
  refine wpAny_to (i := 2) (v := .string A) (a' := ?ax2) rfl (by kernel_rfl) (by kernel_rfl) (by kernel_rfl) (fun _ _ _ h => h) (Or.inl ⟨by rfl, ?yi⟩) ?ha ?_
  case yi => intro w; go_simp
  case ha => go_simp; exact rfl
  refine wpAny_to (i := 4) (v := .string s) (a' := ?ax4) rfl (by kernel_rfl) (by kernel_rfl) (by kernel_rfl) (fun _ _ _ h => h) (Or.inl ⟨by rfl, ?yi⟩) ?ha ?_
  case yi => intro w; go_simp
  case ha => go_simp; exact rfl
  refine wpAny_to (i := 5) (v := .string A) (a' := ?ax5) rfl (by kernel_rfl) (by kernel_rfl) (by kernel_rfl) (fun _ _ _ h => h) (Or.inl ⟨by rfl, ?yi⟩) ?ha ?_
  case yi => intro w; go_simp
  case ha => go_simp; exact rfl
  refine wpAny_to (i := 6) (v := .int .i64 A.size) (a' := ?ax6) rfl (by kernel_rfl) (by kernel_rfl) (by kernel_rfl) (fun _ _ _ h => h) (Or.inl ⟨by rfl, ?yi⟩) ?ha ?_
  case yi => intro w; go_simp
  case ha => go_simp; exact rfl
  refine wpAny_to (i := 10) (v := .string s) (a' := ?ax10) rfl (by kernel_rfl) (by kernel_rfl) (by kernel_rfl) (fun _ _ _ h => h) (Or.inl ⟨by rfl, ?yi⟩) ?ha ?_
  case yi => intro w; go_simp
  case ha => go_simp; exact rfl
  refine wpAny_to (i := 7) (v := .string (s.extract A.size s.size)) (a' := ?ax7) rfl (by kernel_rfl) (by kernel_rfl) (by kernel_rfl) (fun _ _ _ h => h) (Or.inl ⟨by rfl, ?yi⟩) ?ha ?_
  case yi => intro w; go_simp
  case ha => go_simp; exact rfl
  refine wpAny_ready (rs := [3]) (by kernel_rfl) (by simp) ?_
  refine AllReady.cons rfl (fun K hK => ?_) AllReady.nil
  go_simp
  go_wp2_with fail
  refine (M1.out _).mono ?_
  rintro e w3 ⟨rfl, hb3⟩
  go_wp2_with fail
  refine wpAny_ready (rs := [8]) (by kernel_rfl) (by simp) ?_
  refine AllReady.cons rfl (fun K hK => ?_) AllReady.nil
  go_simp
  go_wp2_with fail
  refine (M2.out _).mono ?_
  rintro e w4 ⟨rfl, hb4⟩
  go_wp2_with fail
  refine wpAny_to (i := 9) (v := .int .i64 ((m1 : Int) + (m2 : Int))) (a' := ?ax9) rfl (by kernel_rfl) (by kernel_rfl) (by kernel_rfl) (fun _ _ _ h => h) (Or.inl ⟨by rfl, ?yi⟩) ?ha ?_
  case yi => intro w; go_simp; exact IntWalk.i64_in _ (by omega)
  case ha => go_simp; exact rfl
  refine wpAny_ready (rs := [11]) (by kernel_rfl) (by simp) ?_
  refine AllReady.cons rfl (fun K hK => ?_) AllReady.nil
  go_simp
  go_wp2_with fail
  refine (M.out _).mono ?_
  rintro e w5 ⟨rfl, hb5⟩
  go_wp2_with fail
  have hm := HM.out
  refine wpAny_to (i := 12) (v := .bool true) (a' := ?ax12) rfl (by kernel_rfl) (by kernel_rfl) (by kernel_rfl) (fun _ _ _ h => h) (Or.inl ⟨by rfl, ?yi⟩) ?ha ?_
  case yi => intro w; go_simp
  case ha => go_simp; exact rfl
  refine wpAny_to (i := 13) (v := .bool true) (a' := ?ax13) rfl (by kernel_rfl) (by kernel_rfl) (by kernel_rfl) (fun _ _ _ h => h) (Or.inl ⟨by rfl, ?yi⟩) ?ha ?_
  case yi => intro w; go_simp
  case ha => go_simp; exact rfl
  refine wpAny_to (i := 14) (v := .bool true) (a' := ?ax14) rfl (by kernel_rfl) (by kernel_rfl) (by kernel_rfl) (fun _ _ _ h => h) (Or.inl ⟨by rfl, ?yi⟩) ?ha ?_
  case yi => intro w; go_simp
  case ha => go_simp; exact rfl
  refine wpAny_to (i := 15) (v := .int .i64 ((s.size : Int) - (A.size : Int))) (a' := ?ax15) rfl (by kernel_rfl) (by kernel_rfl) (by kernel_rfl) (fun _ _ _ h => h) (Or.inl ⟨by rfl, ?yi⟩) ?ha ?_
  case yi => intro w; go_simp
  case ha => go_simp; exact rfl
  have hleft := HL.out
  refine wpAny_to (i := 16) (v := .bool false) (a' := ?ax16) rfl (by kernel_rfl) (by kernel_rfl) (by kernel_rfl) (fun _ _ _ h => h) (Or.inl ⟨by rfl, ?yi⟩) ?ha ?_
  case yi => intro w; go_simp
  case ha => go_simp; exact rfl
  clear hleft hm
  refine wpAny_to (i := 17) (v := .bool false) (a' := ?ax17) rfl (by kernel_rfl) (by kernel_rfl) (by kernel_rfl) (fun _ _ _ h => h) (Or.inl ⟨by rfl, ?yi⟩) ?ha ?_
  case yi => intro w; go_simp
  case ha => go_simp; exact rfl
  refine wpAny_to (i := 18) (v := .int .i64 n) (a' := ?ax18) rfl (by kernel_rfl) (by kernel_rfl) (by kernel_rfl) (fun _ _ _ h => h) (Or.inl ⟨by rfl, ?yi⟩) ?ha ?_
  case yi => intro w; go_simp
  case ha => go_simp; exact rfl
  refine wpAny_to (i := 19) (v := .string A) (a' := ?ax19) rfl (by kernel_rfl) (by kernel_rfl) (by kernel_rfl) (fun _ _ _ h => h) (Or.inl ⟨by rfl, ?yi⟩) ?ha ?_
  case yi => intro w; go_simp
  case ha => go_simp; exact rfl
  refine wpAny_to (i := 20) (v := .int .i64 A.size) (a' := ?ax20) rfl (by kernel_rfl) (by kernel_rfl) (by kernel_rfl) (fun _ _ _ h => h) (Or.inl ⟨by rfl, ?yi⟩) ?ha ?_
  case yi => intro w; go_simp
  case ha => go_simp; exact rfl
  refine wpAny_to (i := 21) (v := .int .i64 (n - (A.size : Int))) (a' := ?ax21) rfl (by kernel_rfl) (by kernel_rfl) (by kernel_rfl) (fun _ _ _ h => h) (Or.inl ⟨by rfl, ?yi⟩) ?ha ?_
  case yi => intro w; go_simp; exact IntWalk.i64_in _ (by omega)
  case ha => go_simp; exact rfl
  refine wpAny_to (i := 22) (v := .bool true) (a' := ?ax22) rfl (by kernel_rfl) (by kernel_rfl) (by kernel_rfl) (fun _ _ _ h => h) (Or.inl ⟨by rfl, ?yi⟩) ?ha ?_
  case yi => intro w; go_simp
  case ha => go_simp; exact rfl
  refine wpAny_to (i := 23) (v := .bool true) (a' := ?ax23) rfl (by kernel_rfl) (by kernel_rfl) (by kernel_rfl) (fun _ _ _ h => h) (Or.inl ⟨by rfl, ?yi⟩) ?ha ?_
  case yi => intro w; go_simp
  case ha => go_simp; exact rfl
  refine wpAny_to (i := 24) (v := .bool true) (a' := ?ax24) rfl (by kernel_rfl) (by kernel_rfl) (by kernel_rfl) (fun _ _ _ h => h) (Or.inl ⟨by rfl, ?yi⟩) ?ha ?_
  case yi => intro w; go_simp
  case ha => go_simp; exact rfl
  refine wpAny_to (i := 25) (v := .bool true) (a' := ?ax25) rfl (by kernel_rfl) (by kernel_rfl) (by kernel_rfl) (fun _ _ _ h => h) (Or.inl ⟨by rfl, ?yi⟩) ?ha ?_
  case yi => intro w; go_simp
  case ha => go_simp; exact rfl
  refine wpAny_done (by kernel_rfl) ?_ _
  go_wp2_with fail
  go_ret
  exact ⟨rfl, parts_below hb1 hb2 hb3 hb4 hb5⟩


theorem lawParts_big (s : ByteArray) (n : Int) (w : World) (h : 10000 < s.size ∨ n < 0 ∨ 20000 < n) (hs : s.size ≤ maxLen) :
    Calls Try.prog 7 #[.string s, .int .i64 n] w fun e w' => e = .returned (.bool true) ∧ Below w.heap.size w w' := by
  unfold maxLen at hs
  by_cases h1 : 10000 < s.size
  · have t1 : decide (10000 < s.size) = true := by simp; omega
    go_enter Try.func7, Try.ntmps7
    go_wp2_with (go_at_call 9; refine (awake_any _).mono ?_; rintro e w1 ⟨rfl, hb1⟩)
    go_ret
    exact ⟨rfl, hb1⟩
  · have t1 : decide (10000 < s.size) = false := by simp; omega
    by_cases h2 : n < 0
    · have t2 : decide (n < 0) = true := by simp; omega
      go_enter Try.func7, Try.ntmps7
      go_wp2_with (go_at_call 9; refine (awake_any _).mono ?_; rintro e w1 ⟨rfl, hb1⟩)
      go_ret
      exact ⟨rfl, hb1⟩
    · have t2 : decide (n < 0) = false := by simp; omega
      have h3 : 20000 < n := by omega
      have t3 : decide (20000 < n) = true := by simp; omega
      go_enter Try.func7, Try.ntmps7
      go_wp2_with (go_at_call 9; refine (awake_any _).mono ?_; rintro e w1 ⟨rfl, hb1⟩)
      go_ret
      exact ⟨rfl, hb1⟩

theorem lawParts_walk (s : ByteArray) (n : Int) (w : World) (hs : s.size ≤ maxLen) (_hn : (Lit.int .i64 n).wf = true) :
    Calls Try.prog 7 #[.string s, .int .i64 n] w fun e w' => e = .returned (.bool true) ∧ Below w.heap.size w w' := by
  by_cases h : 10000 < s.size ∨ n < 0 ∨ 20000 < n
  · exact lawParts_big s n w h hs
  · have hl := cutR_le n.toNat (bl s)
    have hnear := cutR_near n.toNat (bl s)
    have hruns := runes_cut n.toNat (bl s)
    rw [bl_len] at hl hnear
    have hAs : (⟨(cut (bl s) n).toArray⟩ : ByteArray).size = cutR n.toNat (bl s) := by
      show (cut (bl s) n).toArray.size = _
      rw [List.size_toArray]
      unfold cut
      rw [List.length_take, bl_len]
      omega
    have hblA : bl ⟨(cut (bl s) n).toArray⟩ = (bl s).take (cutR n.toNat (bl s)) := rfl
    have hblR : bl (s.extract (cutR n.toNat (bl s)) s.size) = (bl s).drop (cutR n.toNat (bl s)) := by
      unfold bl
      rw [Lib.extract_data, List.take_of_length_le]
      rw [List.length_drop, bl_len]
      exact Nat.le_refl _
    have hsum := congrArg List.length hruns
    rw [List.length_append] at hsum
    have l1 := runes_le ((bl s).take (cutR n.toNat (bl s)))
    have l2 := runes_le ((bl s).drop (cutR n.toNat (bl s)))
    rw [List.length_take, bl_len] at l1
    rw [List.length_drop, bl_len] at l2
    have hex := extract_take s (cutR n.toNat (bl s))
    have C := fun w => cut_any s n w (by omega)
    have M1 := fun w => many_any ⟨(cut (bl s) n).toArray⟩ w (by rw [hAs]; unfold maxLen; omega)
    have M2 := fun w => many_any (s.extract (cutR n.toNat (bl s)) s.size) w (by rw [← bl_len, hblR, List.length_drop, bl_len]; unfold maxLen; omega)
    have M := fun w => many_any s w hs
    rw [hblA] at M1
    rw [hblR] at M2
    have hpre : ((s.extract 0 (⟨(cut (bl s) n).toArray⟩ : ByteArray).size).toList == (⟨(cut (bl s) n).toArray⟩ : ByteArray).toList) = true := by
      rw [hAs, hex]
      simp [cut]
    generalize (runes ((bl s).drop (cutR n.toNat (bl s)))).length = m2 at M2 hsum l2
    rw [← hAs] at M2
    by_cases hleft : s.size = cutR n.toNat (bl s)
    · exact lawParts_all s ⟨(cut (bl s) n).toArray⟩ n _ _ _ w (by omega) (by omega) (by omega) (by rw [hAs]; omega) (by rw [hAs]; omega) hpre (by rw [beq_iff_eq]; omega) (by omega) (by omega) (by rw [hAs, beq_iff_eq]; omega) (hide C) (hide M1) (hide M2) (hide M)
    · exact lawParts_some s ⟨(cut (bl s) n).toArray⟩ n _ _ _ w (by omega) (by omega) (by omega) (by rw [hAs]; omega) (by rw [hAs]; omega) hpre (by rw [beq_iff_eq]; omega) (by omega) (by omega) (by rw [hAs, beq_eq_false_iff_ne]; omega) (by rw [hAs]; omega) (hide C) (hide M1) (hide M2) (hide M)
end Go.Proofs.Ytnjdmkkifdiedaa
