/-
  The tree's builder: end of any name.
-/
import Derived.Test.YtkdppcpkigpmdaaG23
namespace Go.Proofs.Ytkdppcpkigpmdaa
open Go.RowKit
open Utf1

set_option maxRecDepth 100000 in
set_option maxHeartbeats 8000000 in
theorem end_st (w : World) (base B : Nat) (s : Bs) (name : ByteArray) (h : SB w base B s) (hg : Good s) (ht : s.t.length ≤ 100000000) (ho : s.o ≤ 100000) (hn : s.n ≤ 80000) :
    Calls Try.prog 33 #[.pointer (some ⟨B, 0, none⟩), .string name] w fun e w' => e = .returned (.tuple #[]) ∧ SB w' base B (endB (bl name) s) ∧ Below base w w' := by
  by_cases hi : 0 < innerR [bl name] s.r
  · have : endB (bl name) s = shutB (innerR [bl name] s.r) s := by
      unfold endB
      rw [if_pos hi]
    rw [this]
    exact end_found w base B s name h hg ht (by omega) hi
  have hc := hg.cnt
  have hrl := len_cnt s.r
  have hlt := innerR_lt [bl name] s.r hg.ne
  have ha0 : innerR [bl name] s.r = 0 := by omega
  have HI : Hid (∀ ty, Calls Try.prog 45 #[.pointer (some ⟨B, 0, none⟩), .slice (some ⟨w.heap.size, 0, none⟩) 1 1] (w.alloc (.cells #[.string name] ty)) fun e w' => e = .returned (.int .i64 0) ∧ w' = w.alloc (.cells #[.string name] ty)) := hide (fun ty => by
    have := inner_lit w base B s.r s.t s.o s.n [name] #[.string name] ty rfl h (by omega) (by omega) (by show 1 ≤ 100000; omega)
    rw [show [name].map bl = [bl name] from rfl, ha0] at this
    exact this)
  have HSW : Hid (∀ ty, SB (w.alloc (.cells #[.string name] ty)) base B s ∧ Below base w (w.alloc (.cells #[.string name] ty))) := hide (fun ty => ⟨St.under h ((Below.refl _ _).alloc (Nat.le_refl _) _), (Below.refl base w).alloc h.base _⟩)
  have f1 := eqlit name [112]
  have f2 := eqlit name [98, 114]
  have HG := hide hg
  by_cases hp : bl name = [112]
  · have hE : endB (bl name) s = shutB (innerR [[112]] (startB [112] [] s).r) (startB [112] [] s) := by
      unfold endB
      rw [if_neg hi, if_pos hp]
    rw [hE]
    rw [decide_eq_true hp] at f1
    have g1 := start_good hg [112] []
    have hps := p_start s hg
    have HST : Hid (∀ wx, SB wx base B s → Calls Try.prog 32 #[.pointer (some ⟨B, 0, none⟩), .string ⟨#[112]⟩, .slice none 0 0] wx fun e w' => e = .returned (.tuple #[]) ∧ SB w' base B (startB [112] [] s) ∧ Below base wx w') := hide (fun wx hx => start_st wx base B s ⟨#[112]⟩ hx hg ht ho (by omega) (by decide) _ _ (clones_nil _ _))
    have HEN : Hid (∀ wx, SB wx base B (startB [112] [] s) → Calls Try.prog 33 #[.pointer (some ⟨B, 0, none⟩), .string ⟨#[112]⟩] wx fun e w' => e = .returned (.tuple #[]) ∧ SB w' base B (shutB (innerR [[112]] (startB [112] [] s).r) (startB [112] [] s)) ∧ Below base wx w') := hide (fun wx hx => end_found wx base B (startB [112] [] s) ⟨#[112]⟩ hx g1.1 (by omega) (by omega) hps)
    obtain ⟨Y, hY⟩ : ∃ Y, Y = shutB (innerR [[112]] (startB [112] [] s).r) (startB [112] [] s) := ⟨_, rfl⟩
    rw [← hY] at HEN ⊢
    obtain ⟨Z, hZ⟩ : ∃ Z, Z = startB [112] [] s := ⟨_, rfl⟩
    rw [← hZ] at HEN HST
    clear hE h hg hc hrl hlt ha0 g1 hps HG hY hZ hi hp f2
    go_enter Try.func33, Try.ntmps33
    go_wp2_with fail
    refine (HI.out _).mono ?_
    rintro e w1 ⟨rfl, rfl⟩
    go_wp2_with fail
    refine (HST.out _ (HSW.out _).1).mono ?_
    rintro e w2 ⟨rfl, m1, m2⟩
    have HC := hide (HEN.out _ m1)
    have HB := hide ((HSW.out _).2.trans m2)
    clear m1 m2 HEN HST HSW HI
    go_wp2_with fail
    refine HC.out.mono ?_
    rintro e w3 ⟨rfl, m1, m2⟩
    have HE := hide (And.intro m1 (HB.out.trans m2))
    clear m1 m2 HC HB
    go_wp2_with fail
    go_end0
    exact ⟨rfl, HE.out⟩
  rw [decide_eq_false hp] at f1
  by_cases hbr : bl name = [98, 114]
  · have hE : endB (bl name) s = startB [98, 114] [] s := by
      unfold endB
      rw [if_neg hi, if_neg hp, if_pos hbr]
    rw [hE]
    rw [decide_eq_true hbr] at f2
    have HST : Hid (∀ wx, SB wx base B s → Calls Try.prog 32 #[.pointer (some ⟨B, 0, none⟩), .string ⟨#[98, 114]⟩, .slice none 0 0] wx fun e w' => e = .returned (.tuple #[]) ∧ SB w' base B (startB [98, 114] [] s) ∧ Below base wx w') := hide (fun wx hx => start_st wx base B s ⟨#[98, 114]⟩ hx hg ht ho (by omega) (by decide) _ _ (clones_nil _ _))
    obtain ⟨Z, hZ⟩ : ∃ Z, Z = startB [98, 114] [] s := ⟨_, rfl⟩
    rw [← hZ] at HST ⊢
    clear hE h hg hc hrl hlt ha0 HG hZ hi hp hbr
    go_enter Try.func33, Try.ntmps33
    go_wp2_with fail
    refine (HI.out _).mono ?_
    rintro e w1 ⟨rfl, rfl⟩
    go_wp2_with fail
    refine (HST.out _ (HSW.out _).1).mono ?_
    rintro e w2 ⟨rfl, m1, m2⟩
    have HE := hide (And.intro m1 ((HSW.out _).2.trans m2))
    clear m1 m2 HST HSW HI
    go_wp2_with fail
    go_end0
    exact ⟨rfl, HE.out⟩
  · have hE : endB (bl name) s = s := by
      unfold endB
      rw [if_neg hi, if_neg hp, if_neg hbr]
    rw [hE]
    rw [decide_eq_false hbr] at f2
    clear hE h hg hc hrl hlt ha0 HG hi hp hbr
    go_enter Try.func33, Try.ntmps33
    go_wp2_with fail
    refine (HI.out _).mono ?_
    rintro e w1 ⟨rfl, rfl⟩
    go_wp2_with fail
    go_end0
    exact ⟨rfl, HSW.out _⟩
end Go.Proofs.Ytkdppcpkigpmdaa
