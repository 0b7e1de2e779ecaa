/-
  strings.Cut at one byte, and what stands around names and values: style.plain, the document's bare.
-/
import Derived.Test.YtnjbeehfnahdfaaDoorY1
import Derived.Shelf.Strings.SlTrimAscii
import Derived.Shelf.RegionOpenPlain
import Derived.Deep.CutBlock
import Derived.KernelRfl
namespace Go.Proofs.YtnjbeehfnahdfaaDoor
open Go.RowKit
open Utf1 Sty

theorem trim_any (s : ByteArray) (hs : s.size ≤ 9223372036854775807) (w : World) :
    Calls Tryd.prog 32 #[.string s, .string ⟨#[9, 10, 12, 13, 32]⟩] w fun e w' => e = .returned (.string ⟨(Lib.trimS (bl s) cutset).toArray⟩) ∧ Below w.heap.size w w' :=
  Any.strings_Trim_laid Tryd.lays160 (by kernel_rfl) s ⟨#[9, 10, 12, 13, 32]⟩ w hs (by decide) (ascii_of_all (by decide))

theorem plain_any (s : ByteArray) (hs : s.size ≤ 9223372036854775807) (w : World) :
    Calls Tryd.prog 25 #[.string s] w fun e w' => e = .returned (.string ⟨(pl (bl s)).toArray⟩) ∧ Below w.heap.size w w' := by
  have c1 := fun w => trim_any s hs w
  have c2 := fun w => lower_any ⟨(Lib.trimS (bl s) cutset).toArray⟩ w
  have HE : Hid (pl (bl s) = lower (bl ⟨(Lib.trimS (bl s) cutset).toArray⟩)) := hide rfl
  rw [HE.out]
  generalize (⟨(lower (bl ⟨(Lib.trimS (bl s) cutset).toArray⟩)).toArray⟩ : ByteArray) = B at c2
  generalize (⟨(Lib.trimS (bl s) cutset).toArray⟩ : ByteArray) = A at c1 c2
  clear HE
  go_enter Tryd.func25, Tryd.ntmps25
  go_wp2_with fail
  refine (c1 _).mono ?_
  rintro e w1 ⟨rfl, hb1⟩
  go_wp2_with fail
  refine (c2 _).mono ?_
  rintro e w2 ⟨rfl, hb2⟩
  go_wp2_with fail
  go_ret
  exact ⟨rfl, hb1.trans (hb2.mono hb1.size)⟩

theorem ib_some : ∀ (a b : L) (c : UInt8), c ∉ a → Lib.indexByte (a ++ c :: b) c = (a.length : Int)
  | [], b, c, _ => by simp [Lib.indexByte]
  | x :: a, b, c, h => by
    have hx : (x == c) = false := beq_eq_false_iff_ne.2 (fun e => h (by simp [e]))
    have ih := ib_some a b c (fun e => h (by simp [e]))
    rw [List.cons_append, Lib.indexByte, hx, ih]
    have : ((a.length : Int) == -1) = false := beq_eq_false_iff_ne.2 (by omega)
    rw [this]
    simp
theorem ib_none : ∀ (a : L) (c : UInt8), c ∉ a → Lib.indexByte a c = -1
  | [], c, _ => rfl
  | x :: a, c, h => by
    have hx : (x == c) = false := beq_eq_false_iff_ne.2 (fun e => h (by simp [e]))
    have ih := ib_none a c (fun e => h (by simp [e]))
    rw [Lib.indexByte, hx, ih]
    rfl

set_option maxHeartbeats 2000000 in
theorem lcut_none (s : ByteArray) (c : UInt8) (h : c ∉ bl s) (w : World) :
    Calls Tryd.prog 30 #[.string s, .string ⟨#[c]⟩] w fun e w' => e = .returned (.tuple #[.string s, .string ⟨#[]⟩, .bool false]) ∧ w' = w := by
  have c1 := fun w => Tryd.stringslite_Index_one s c w
  rw [ib_none _ c h] at c1
  clear h
  go_enter Tryd.func30, Tryd.ntmps30
  go_wp2_with fail
  refine (c1 _).mono ?_
  rintro e w1 ⟨rfl, rfl⟩
  go_wp2_with fail
  go_ret3
  exact ⟨rfl, rfl⟩
set_option maxHeartbeats 2000000 in
theorem lcut_some (s : ByteArray) (c : UInt8) (A B : ByteArray) (h : bl s = bl A ++ c :: bl B) (hc : c ∉ bl A) (hs : s.size ≤ 100000) (w : World) :
    Calls Tryd.prog 30 #[.string s, .string ⟨#[c]⟩] w fun e w' => e = .returned (.tuple #[.string A, .string B, .bool true]) ∧ Below w.heap.size w w' := by
  have c1 := fun w => Tryd.stringslite_Index_one s c w
  rw [show s.data.toList = _ from h, ib_some _ _ c hc, bl_len] at c1
  have hsz : s.size = A.size + 1 + B.size := by
    have := congrArg List.length h
    rw [bl_len, List.length_append, List.length_cons, bl_len, bl_len] at this
    omega
  have HA : Hid (s.extract 0 A.size = A) := hide (by
    apply ba_ext
    rw [extract_bl, h]
    have : A.size = (bl A).length := (bl_len A).symm
    rw [this]
    simp)
  have HB : Hid (s.extract (A.size + 1) s.size = B) := hide (by
    apply ba_ext
    rw [extract_bl, h, List.drop_append, bl_len]
    rw [List.drop_eq_nil_of_le (by rw [bl_len]; omega)]
    rw [show A.size + 1 - A.size = 1 by omega]
    simp
    rw [List.take_of_length_le (by rw [bl_len]; omega)])
  have k0 : (0 : Int) ≤ (A.size : Int) := by omega
  have k1 : (A.size : Int) ≤ (s.size : Int) := by omega
  have k2 : (0 : Int) ≤ (A.size : Int) + 1 := by omega
  have k3 : (A.size : Int) + 1 ≤ (s.size : Int) := by omega
  have hAs : A.size ≤ 100000 := by omega
  have HS := hide hsz
  clear h hc hsz
  have hA := HA.out
  have hB := HB.out
  go_enter Tryd.func30, Tryd.ntmps30
  go_wp2_with fail
  refine (c1 _).mono ?_
  rintro e w1 ⟨rfl, rfl⟩
  go_wp2_with fail
  go_region
  go_wp2
  go_ret3
  exact ⟨rfl, (Below.refl _ _).drew⟩
set_option maxHeartbeats 2000000 in
theorem cut_none (s : ByteArray) (c : UInt8) (h : c ∉ bl s) (w : World) :
    Calls Tryd.prog 24 #[.string s, .string ⟨#[c]⟩] w fun e w' => e = .returned (.tuple #[.string s, .string ⟨#[]⟩, .bool false]) ∧ Below w.heap.size w w' := by
  have c1 := fun w => lcut_none s c h w
  clear h
  go_enter Tryd.func24, Tryd.ntmps24
  go_wp2_with fail
  refine (c1 _).mono ?_
  rintro e w1 ⟨rfl, rfl⟩
  go_wp2_with fail
  go_ret3
  exact ⟨rfl, Below.refl _ _⟩
set_option maxHeartbeats 2000000 in
theorem cut_some (s : ByteArray) (c : UInt8) (A B : ByteArray) (h : bl s = bl A ++ c :: bl B) (hc : c ∉ bl A) (hs : s.size ≤ 100000) (w : World) :
    Calls Tryd.prog 24 #[.string s, .string ⟨#[c]⟩] w fun e w' => e = .returned (.tuple #[.string A, .string B, .bool true]) ∧ Below w.heap.size w w' := by
  have c1 := fun w => lcut_some s c A B h hc hs w
  clear h hc
  go_enter Tryd.func24, Tryd.ntmps24
  go_wp2_with fail
  refine (c1 _).mono ?_
  rintro e w1 ⟨rfl, hb⟩
  go_wp2_with fail
  go_ret3
  exact ⟨rfl, hb⟩
theorem split_at : ∀ (l : L) (c : UInt8), c ∈ l → ∃ a b, l = a ++ c :: b ∧ c ∉ a
  | [], c, h => by simp at h
  | x :: l, c, h => by
    by_cases e : x = c
    · exact ⟨[], l, by simp [e], by simp⟩
    · rcases List.mem_cons.1 h with h | h
      · exact absurd h.symm e
      · obtain ⟨a, b, rfl, hn⟩ := split_at l c h
        exact ⟨x :: a, b, by simp, by simp [hn, Ne.symm e]⟩
theorem split_ba (s : ByteArray) (c : UInt8) (h : c ∈ bl s) : ∃ A B : ByteArray, bl s = bl A ++ c :: bl B ∧ c ∉ bl A := by
  obtain ⟨a, b, e, hn⟩ := split_at (bl s) c h
  exact ⟨⟨a.toArray⟩, ⟨b.toArray⟩, by simpa using e, by simpa using hn⟩
end Go.Proofs.YtnjbeehfnahdfaaDoor
