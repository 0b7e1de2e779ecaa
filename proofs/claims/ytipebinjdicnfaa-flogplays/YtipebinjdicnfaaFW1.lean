/-
  Package flog, walked: places, lengths, frames.
-/
import Derived.Test.YtipebinjdicnfaaFM
import Derived.Test.YtipebinjdicnfaaDVH
import Derived.Laws.BitsAllLaws
import Derived.OwnWalk
import Derived.Lib.AppendStr
namespace Go.Proofs.Ytipebinjdicnfaa
open Go.RowKit

theorem endOf_any (w : World) (p : Option Addr) (n c : Nat) : Calls Try.prog 29 #[.slice p n c] w fun e w' => e = .returned (.agg #[.int .i64 (n : Int), .int .i64 0]) ∧ Below w.heap.size w w' := by
  go_enter Try.func29, Try.ntmps29
  go_wp2_with fail
  refine bodyPost_ret (results_cell_row rfl _ _ w.heap.size 60 #[.int .i64 (n : Int), .int .i64 0] (0, 0) _ rfl ?_ Try.underlying60 rfl (by kernel_rfl)) rfl ?_
  · exact heap_alloc_new _ _
  · exact ⟨rfl, (Below.refl _ _).alloc (Nat.le_refl _) _⟩
theorem past_any (w : World) (b a m : Int) (hb : 0 ≤ b + m ∧ b + m ≤ 1000000000) (ha : -1000000000 ≤ a - m ∧ a - m ≤ 1000000000) : Calls Try.prog 38 #[.agg #[.int .i64 b, .int .i64 a], .int .i64 m] w fun e w' => e = .returned (.agg #[.int .i64 (b + m), .int .i64 (a - m)]) ∧ Below w.heap.size w w' := by
  go_enter Try.func38, Try.ntmps38
  go_wp2_with fail
  refine bodyPost_ret (results_cell_row rfl _ _ (w.heap.size + 1) 60 #[.int .i64 (b + m), .int .i64 (a - m)] (0, 0) _ rfl ?_ Try.underlying60 rfl (by kernel_rfl)) rfl ?_
  · exact heap_alloc2_new _ _ _
  · exact ⟨rfl, ((Below.refl _ _).alloc (Nat.le_refl _) _).alloc (by simp) _⟩
theorem past_to (w : World) (b a m b' a' : Int) (hb : b + m = b') (ha : a - m = a') (h1 : 0 ≤ b' ∧ b' ≤ 1000000000) (h2 : -1000000000 ≤ a' ∧ a' ≤ 1000000000) : Calls Try.prog 38 #[.agg #[.int .i64 b, .int .i64 a], .int .i64 m] w fun e w' => e = .returned (.agg #[.int .i64 b', .int .i64 a']) ∧ Below w.heap.size w w' := by
  subst hb
  subst ha
  exact past_any w b a m h1 h2
/-- Bytes in a block, from a place on. -/
def RowAt (w : World) (A off : Nat) (b : List UInt8) : Prop := ∀ j (hj : j < b.length), w.cell? ⟨A, off + j, none⟩ = some (.int .u8 (b[j].toNat : Int))
theorem i64_or (a b : Nat) (ha : a < 4294967296) (hb : b < 4294967296) : bits .or .i64 (a : Int) (b : Int) = ((a ||| b : Nat) : Int) := by
  unfold bits
  have h1 : (BitVec.ofInt IntKind.i64.bits (a : Int)).toNat = a := ofInt_u64 a (by omega)
  have h2 : (BitVec.ofInt IntKind.i64.bits (b : Int)).toNat = b := ofInt_u64 b (by omega)
  have h3 : a ||| b < 4294967296 := Nat.or_lt_two_pow (n := 32) ha hb
  simp only [BitVec.toNat_or, h1, h2]
  exact IntWalk.i64_in _ (by omega)
theorem or_sum (X Y Z : Nat) (hX : X < 256) (hY : Y < 256) (hZ : Z < 256) : bits .or .i64 (bits .or .i64 ((X : Int) * 65536) ((Y : Int) * 256)) (Z : Int) = ((X * 65536 + Y * 256 + Z : Nat) : Int) := by
  have e1 : ((X : Int) * 65536) = ((X * 65536 : Nat) : Int) := by omega
  have e2 : ((Y : Int) * 256) = ((Y * 256 : Nat) : Int) := by omega
  rw [e1, e2, i64_or _ _ (by omega) (by omega), nat_join 16 (X * 65536) (Y * 256) (by omega) (by omega), i64_or _ _ (by omega) (by omega), nat_join 8 _ Z (by omega) (by omega)]
theorem sizeOf_any (w : World) (A off n c : Nat) (b : List UInt8) (h : RowAt w A off b) (hn : n = b.length) (h3 : 3 ≤ n) : Calls Try.prog 39 #[.slice (some ⟨A, off, none⟩) n c] w fun e w' => e = .returned (.int .i64 (num b : Int)) ∧ w' = w.drew := by
  obtain ⟨x, y, z, r, rfl⟩ : ∃ x y z r, b = x :: y :: z :: r := by
    match b, (show 3 ≤ b.length by omega) with
    | x :: y :: z :: r, _ => exact ⟨x, y, z, r, rfl⟩
  obtain ⟨X, hX⟩ : ∃ X : Nat, X = x.toNat := ⟨_, rfl⟩
  obtain ⟨Y, hY⟩ : ∃ Y : Nat, Y = y.toNat := ⟨_, rfl⟩
  obtain ⟨Z, hZ⟩ : ∃ Z : Nat, Z = z.toNat := ⟨_, rfl⟩
  have c0 : w.cell? ⟨A, off, none⟩ = some (.int .u8 (X : Int)) := by rw [hX]; exact h 0 (by simp)
  have c1 : w.cell? ⟨A, off + 1, none⟩ = some (.int .u8 (Y : Int)) := by rw [hY]; exact h 1 (by simp)
  have c2 : w.cell? ⟨A, off + 2, none⟩ = some (.int .u8 (Z : Int)) := by rw [hZ]; exact h 2 (by simp)
  have HN : Hid (num (x :: y :: z :: r) = X * 65536 + Y * 256 + Z ∧ X < 256 ∧ Y < 256 ∧ Z < 256) := hide ⟨by rw [hX, hY, hZ]; rfl, by rw [hX]; exact x.toNat_lt, by rw [hY]; exact y.toNat_lt, by rw [hZ]; exact z.toNat_lt⟩
  have h0 : (0 : Int) < (n : Int) := by omega
  have h1 : (1 : Int) < (n : Int) := by omega
  have h2 : (2 : Int) < (n : Int) := by omega
  have b0 : (X : Int) ≤ 255 := by have := HN.out; omega
  have b1 : (Y : Int) ≤ 255 := by have := HN.out; omega
  have b2 : (Z : Int) ≤ 255 := by have := HN.out; omega
  rw [HN.out.1]
  clear hX hY hZ h hn h3
  go_enter Try.func39, Try.ntmps39
  go_wp2_with fail
  go_region
  go_wp2_with fail
  rw [or_sum X Y Z HN.out.2.1 HN.out.2.2.1 HN.out.2.2.2]
  go_ret
  exact ⟨rfl, rfl⟩

theorem frame_any (w : World) (s : ByteArray) (hs : s.size ≤ 20000) : Calls Try.prog 31 #[.string s] w fun e w' => (∃ v, e = .returned v ∧ w'.ownsRow w.heap.size 5 1 v (fr s).length (Lib.byteCells (fr s))) ∧ Below w.heap.size w w' := by
  obtain ⟨i0, hi, hz0, hz1, hz2⟩ := info_parts infoByte
  go_enter Try.func31, Try.ntmps31
  go_wp2_with (refine wpList_make_own _ rfl _ _ 38 rfl w.heap.size 5 i0 (.int .u8 0) 1 Try.underlying38 hi hz0 hz1 .i64 .i64 _ (3 + s.size) rfl rfl (by omega) (by rw [hz2]; omega) (by unfold maxLen; omega) (Nat.le_refl _) ?_)
  intro w1 ho1 hg1
  have HO1 := hide ho1
  have HG1 := hide hg1
  have HB3 : Hid (IsBytes (w1.alloc (.cells #[.int .u8 ((s.size : Int) / 65536), .int .u8 ((s.size : Int) / 256), .int .u8 ((s.size : Int) % 256)] 5)) (.slice (some ⟨w1.heap.size, 0, none⟩) 3 3) (hd s.size)) := hide (by
    have e1 : ((UInt8.ofNat (s.size / 65536)).toNat : Int) = (s.size : Int) / 65536 := by rw [toNat_ofNat (by omega)]; omega
    have e2 : ((UInt8.ofNat (s.size / 256 % 256)).toNat : Int) = (s.size : Int) / 256 := by rw [toNat_ofNat (by omega)]; omega
    have e3 : ((UInt8.ofNat (s.size % 256)).toNat : Int) = (s.size : Int) % 256 := by rw [toNat_ofNat (by omega)]; omega
    refine .inr ⟨_, _, rfl, fun j hj => ?_⟩
    rw [add_zero_at]
    refine tag_cell (heap_alloc_new w1 _) j _ ?_
    match j, hj with
    | 0, _ => rw [← e1]; rfl
    | 1, _ => rw [← e2]; rfl
    | 2, _ => rw [← e3]; rfl)
  clear ho1 hg1
  go_wp2_with (at_builtin; refine wpList_append_bytes rfl _ _ rfl w.heap.size _ [] rfl (HO1.out.alloc _) _ (hd s.size) rfl HB3.out (show 0 + 3 ≤ 100000000 by decide) (by have := HG1.out.size; simp; omega) ?_)
  intro v2 w2 ho2 hg2 _
  obtain ⟨p2, c2, rfl⟩ := own_len ho2
  have HO2 := hide ho2
  have HW2 : Hid (Below w.heap.size w w2) := hide (by
    have h1 : Below w.heap.size w w1 := (Below.refl _ w).grown HG1.out (Nat.le_refl _) (fun k h => by simp at h)
    refine (h1.alloc h1.size _).grown hg2 (by have := h1.size; simp; omega) (fun k h => ?_)
    simp [Value.ownBlock] at h
    omega)
  clear ho2 hg2
  go_wp2_with (at_builtin; refine Lib.wpList_append_own_string _ rfl _ _ 38 9 rfl w.heap.size 5 i0 Try.underlying38 Try.underlying9 hi hz0 hz1 hz2 _ 3 _ rfl HO2.out s rfl (by unfold maxLen; omega) (by omega) HW2.out.size ?_)
  intro v3 w3 ho3 hg3 _
  obtain ⟨p3, c3, rfl⟩ := own_len ho3
  have HO3 := hide ho3
  have HW3 : Hid (Below w.heap.size w w3) := hide (HW2.out.grown hg3 HW2.out.size (fun k h => (HO2.out.lt k h).1))
  clear ho3 hg3
  go_wp2_with fail
  go_ret
  refine ⟨⟨_, rfl, ?_⟩, HW3.out⟩
  have h := HO3.out
  rw [fr_len]
  have e : Lib.byteCells (hd s.size) ++ Lib.strCells s = Lib.byteCells (fr s) := by
    unfold fr
    rw [byte_app]
    rfl
  rw [← e]
  exact h
end Go.Proofs.Ytipebinjdicnfaa
