/-
  What the document's Char answers.
-/
import Derived.Test.YtholfdfjapgfbaaP7
namespace Go.Proofs.Ytholfdfjapgfbaa
open Go.RowKit
open Utf1

theorem add_zero_at (B j : Nat) : (⟨B, 0, none⟩ : Addr).add j = ⟨B, j, none⟩ := by cases j <;> simp [Addr.add]
/-- Bytes that stand in a block that was just laid, as a text. -/
theorem conv_new (w : World) (C : Array Value) (l : List UInt8) (n cap : Nat) (hn : n = l.length) (h : C = (l.map fun b => Value.int .u8 (b.toNat : Int)).toArray) :
    (convert 37 9 (.slice (some ⟨w.heap.size, 0, none⟩) n cap)).run Try.prog (w.alloc (.cells C 5)) = .ok (.string ⟨l.toArray⟩) (w.alloc (.cells C 5)) := by
  subst hn
  subst h
  refine run_convert_bytes_back _ 37 9 5 ⟨w.heap.size, 0, none⟩ cap l Try.underlying37 Try.underlying5 Try.underlying9 (fun j hj => ?_)
  rw [add_zero_at, World.cell?_alloc_mark]
  simp [hj]

set_option maxHeartbeats 1000000 in
theorem char1 (r : Nat) (w : World) (h0 : r ≠ 0) (h13 : r ≠ 13) (h1 : r < 128) :
    Calls Try.prog 26 #[.int .i64 (r : Int)] w fun e w' => e = .returned (.string ⟨(er r).toArray⟩) ∧ Below w.heap.size w w' := by
  obtain ⟨z, hz⟩ : ∃ z : Int, z = (r : Int) := ⟨_, rfl⟩
  have hcv : ∀ (w : World), (convert 37 9 (.slice (some ⟨w.heap.size, 0, none⟩) 1 1)).run Try.prog (w.alloc (.cells #[.int .u8 z] 5)) = .ok (.string ⟨(er r).toArray⟩) (w.alloc (.cells #[.int .u8 z] 5)) := fun w => conv_new w _ (er r) 1 1 (by rw [er1 (by omega)]; rfl) (by
    rw [er1 (by omega), hz]
    simp
    omega)
  generalize (⟨(er r).toArray⟩ : ByteArray) = S at hcv ⊢
  rw [← hz]
  have e0 : (z == 0) = false := beq_eq_false_iff_ne.2 (by omega)
  have e1 : (z == 13) = false := beq_eq_false_iff_ne.2 (by omega)
  have e2 : ¬ 55296 ≤ z := by omega
  have e3 : ¬ 1114111 < z := by omega
  have e4 : z < 128 := by omega
  have e5 : 0 ≤ z := by omega
  clear hz h0 h13 h1
  go_enter Try.func26, Try.ntmps26
  go_wp2
  go_ret
  exact ⟨rfl, (Below.refl _ w).alloc (Nat.le_refl _) _⟩

set_option maxHeartbeats 1000000 in
theorem char2 (r : Nat) (w : World) (h0 : 128 ≤ r) (h1 : r < 2048) :
    Calls Try.prog 26 #[.int .i64 (r : Int)] w fun e w' => e = .returned (.string ⟨(er r).toArray⟩) ∧ Below w.heap.size w w' := by
  obtain ⟨z, hz⟩ : ∃ z : Int, z = (r : Int) := ⟨_, rfl⟩
  obtain ⟨d, hd⟩ : ∃ d : Int, d = ((r / 64 : Nat) : Int) := ⟨_, rfl⟩
  obtain ⟨m, hm⟩ : ∃ m : Int, m = ((r % 64 : Nat) : Int) := ⟨_, rfl⟩
  have f1 : Int.tdiv z 64 = d := by rw [hz, hd]; rfl
  have f2 : Int.tmod z 64 = m := by rw [hz, hm]; rfl
  have hcv : ∀ (w : World), (convert 37 9 (.slice (some ⟨w.heap.size, 0, none⟩) 2 2)).run Try.prog (w.alloc (.cells #[.int .u8 (192 + d), .int .u8 (128 + m)] 5)) = .ok (.string ⟨(er r).toArray⟩) (w.alloc (.cells #[.int .u8 (192 + d), .int .u8 (128 + m)] 5)) := fun w => conv_new w _ (er r) 2 2 (by rw [er2 h0 (by omega)]; rfl) (by
    rw [er2 h0 (by omega), hd, hm]
    simp only [List.map_cons, List.map_nil]
    rw [toNat_ofNat (by omega), toNat_ofNat (by omega)]
    simp)
  generalize (⟨(er r).toArray⟩ : ByteArray) = S at hcv ⊢
  rw [← hz]
  have e0 : (z == 0) = false := beq_eq_false_iff_ne.2 (by omega)
  have e1 : (z == 13) = false := beq_eq_false_iff_ne.2 (by omega)
  have e2 : ¬ 55296 ≤ z := by omega
  have e3 : ¬ 1114111 < z := by omega
  have e4 : ¬ z < 128 := by omega
  have e5 : z < 2048 := by omega
  have d0 : 0 ≤ d := by omega
  have d1 : d ≤ 31 := by omega
  have m0 : 0 ≤ m := by omega
  have m1 : m ≤ 63 := by omega
  clear hz h0 h1 hd hm
  go_enter Try.func26, Try.ntmps26
  go_wp2
  go_ret
  exact ⟨rfl, (Below.refl _ w).alloc (Nat.le_refl _) _⟩

set_option maxHeartbeats 1000000 in
theorem char3 (r : Nat) (w : World) (h0 : 2048 ≤ r) (h1 : r < 65536) (hs : r < 55296 ∨ 57343 < r) :
    Calls Try.prog 26 #[.int .i64 (r : Int)] w fun e w' => e = .returned (.string ⟨(er r).toArray⟩) ∧ Below w.heap.size w w' := by
  obtain ⟨z, hz⟩ : ∃ z : Int, z = (r : Int) := ⟨_, rfl⟩
  obtain ⟨d, hd⟩ : ∃ d : Int, d = ((r / 4096 : Nat) : Int) := ⟨_, rfl⟩
  obtain ⟨x, hx⟩ : ∃ x : Int, x = ((r / 64 : Nat) : Int) := ⟨_, rfl⟩
  obtain ⟨y, hy⟩ : ∃ y : Int, y = ((r / 64 % 64 : Nat) : Int) := ⟨_, rfl⟩
  obtain ⟨m, hm⟩ : ∃ m : Int, m = ((r % 64 : Nat) : Int) := ⟨_, rfl⟩
  have f0 : Int.tdiv z 4096 = d := by rw [hz, hd]; rfl
  have f1 : Int.tdiv z 64 = x := by rw [hz, hx]; rfl
  have f3 : Int.tmod x 64 = y := by rw [hx, hy]; rfl
  have f2 : Int.tmod z 64 = m := by rw [hz, hm]; rfl
  have hcv : ∀ (w : World), (convert 37 9 (.slice (some ⟨w.heap.size, 0, none⟩) 3 3)).run Try.prog (w.alloc (.cells #[.int .u8 (224 + d), .int .u8 (128 + y), .int .u8 (128 + m)] 5)) = .ok (.string ⟨(er r).toArray⟩) (w.alloc (.cells #[.int .u8 (224 + d), .int .u8 (128 + y), .int .u8 (128 + m)] 5)) := fun w => conv_new w _ (er r) 3 3 (by rw [er3 (by omega)]; rfl) (by
    rw [er3 (by omega), hd, hm, hy]
    simp only [List.map_cons, List.map_nil]
    rw [toNat_ofNat (by omega), toNat_ofNat (by omega), toNat_ofNat (by omega)]
    simp)
  generalize (⟨(er r).toArray⟩ : ByteArray) = S at hcv ⊢
  rw [← hz]
  have e0 : (z == 0) = false := beq_eq_false_iff_ne.2 (by omega)
  have e1 : (z == 13) = false := beq_eq_false_iff_ne.2 (by omega)
  have e3 : ¬ 1114111 < z := by omega
  have e4 : ¬ z < 128 := by omega
  have e5 : ¬ z < 2048 := by omega
  have e6 : z < 65536 := by omega
  have d0 : 0 ≤ d := by omega
  have d1 : d ≤ 15 := by omega
  have m0 : 0 ≤ m := by omega
  have m1 : m ≤ 63 := by omega
  have y0 : 0 ≤ y := by omega
  have y1 : y ≤ 63 := by omega
  have x0 : 0 ≤ x := by omega
  have x1 : x ≤ 1023 := by omega
  by_cases hs2 : 55296 ≤ z
  · have hs3 : ¬ z ≤ 57343 := by omega
    clear hz h0 h1 hd hm hx hy hs
    go_enter Try.func26, Try.ntmps26
    go_wp2
    go_ret
    exact ⟨rfl, (Below.refl _ w).alloc (Nat.le_refl _) _⟩
  · clear hz h0 h1 hd hm hx hy hs
    go_enter Try.func26, Try.ntmps26
    go_wp2
    go_ret
    exact ⟨rfl, (Below.refl _ w).alloc (Nat.le_refl _) _⟩

set_option maxHeartbeats 1000000 in
theorem char4 (r : Nat) (w : World) (h0 : 65536 ≤ r) (h1 : r ≤ 1114111) :
    Calls Try.prog 26 #[.int .i64 (r : Int)] w fun e w' => e = .returned (.string ⟨(er r).toArray⟩) ∧ Below w.heap.size w w' := by
  obtain ⟨z, hz⟩ : ∃ z : Int, z = (r : Int) := ⟨_, rfl⟩
  obtain ⟨d, hd⟩ : ∃ d : Int, d = ((r / 262144 : Nat) : Int) := ⟨_, rfl⟩
  obtain ⟨u, hu⟩ : ∃ u : Int, u = ((r / 4096 : Nat) : Int) := ⟨_, rfl⟩
  obtain ⟨v, hv⟩ : ∃ v : Int, v = ((r / 4096 % 64 : Nat) : Int) := ⟨_, rfl⟩
  obtain ⟨x, hx⟩ : ∃ x : Int, x = ((r / 64 : Nat) : Int) := ⟨_, rfl⟩
  obtain ⟨y, hy⟩ : ∃ y : Int, y = ((r / 64 % 64 : Nat) : Int) := ⟨_, rfl⟩
  obtain ⟨m, hm⟩ : ∃ m : Int, m = ((r % 64 : Nat) : Int) := ⟨_, rfl⟩
  have f0 : Int.tdiv z 262144 = d := by rw [hz, hd]; rfl
  have f4 : Int.tdiv z 4096 = u := by rw [hz, hu]; rfl
  have f5 : Int.tmod u 64 = v := by rw [hu, hv]; rfl
  have f1 : Int.tdiv z 64 = x := by rw [hz, hx]; rfl
  have f3 : Int.tmod x 64 = y := by rw [hx, hy]; rfl
  have f2 : Int.tmod z 64 = m := by rw [hz, hm]; rfl
  have hcv : ∀ (w : World), (convert 37 9 (.slice (some ⟨w.heap.size, 0, none⟩) 4 4)).run Try.prog (w.alloc (.cells #[.int .u8 (240 + d), .int .u8 (128 + v), .int .u8 (128 + y), .int .u8 (128 + m)] 5)) = .ok (.string ⟨(er r).toArray⟩) (w.alloc (.cells #[.int .u8 (240 + d), .int .u8 (128 + v), .int .u8 (128 + y), .int .u8 (128 + m)] 5)) := fun w => conv_new w _ (er r) 4 4 (by rw [er4 h0 h1]; rfl) (by
    rw [er4 h0 h1, hd, hm, hy, hv]
    simp only [List.map_cons, List.map_nil]
    rw [toNat_ofNat (by omega), toNat_ofNat (by omega), toNat_ofNat (by omega), toNat_ofNat (by omega)]
    simp)
  generalize (⟨(er r).toArray⟩ : ByteArray) = S at hcv ⊢
  rw [← hz]
  have e0 : (z == 0) = false := beq_eq_false_iff_ne.2 (by omega)
  have e1 : (z == 13) = false := beq_eq_false_iff_ne.2 (by omega)
  have e2 : 55296 ≤ z := by omega
  have e2' : ¬ z ≤ 57343 := by omega
  have e3 : ¬ 1114111 < z := by omega
  have e4 : ¬ z < 128 := by omega
  have e5 : ¬ z < 2048 := by omega
  have e6 : ¬ z < 65536 := by omega
  have d0 : 0 ≤ d := by omega
  have d1 : d ≤ 4 := by omega
  have m0 : 0 ≤ m := by omega
  have m1 : m ≤ 63 := by omega
  have y0 : 0 ≤ y := by omega
  have y1 : y ≤ 63 := by omega
  have x0 : 0 ≤ x := by omega
  have x1 : x ≤ 17407 := by omega
  have u0 : 0 ≤ u := by omega
  have u1 : u ≤ 271 := by omega
  have v0 : 0 ≤ v := by omega
  have v1 : v ≤ 63 := by omega
  clear hz h0 h1 hd hm hx hy hu hv
  go_enter Try.func26, Try.ntmps26
  go_wp2
  go_ret
  exact ⟨rfl, (Below.refl _ w).alloc (Nat.le_refl _) _⟩

theorem er_fffd : er 65533 = [239, 191, 189] := by decide
set_option maxHeartbeats 1000000 in
theorem charBad (z : Int) (w : World) (h0 : 0 ≤ z) (h1 : z ≤ 16777215) (h : z = 0 ∨ z = 13 ∨ (55296 ≤ z ∧ z ≤ 57343) ∨ 1114111 < z) :
    Calls Try.prog 26 #[.int .i64 z] w fun e w' => e = .returned (.string ⟨(er 65533).toArray⟩) ∧ Below w.heap.size w w' := by
  rw [er_fffd]
  have hcv : ∀ (w : World), (convert 37 9 (.slice (some ⟨w.heap.size, 0, none⟩) 3 3)).run Try.prog (w.alloc (.cells #[.int .u8 239, .int .u8 191, .int .u8 189] 5)) = .ok (.string ⟨#[239, 191, 189]⟩) (w.alloc (.cells #[.int .u8 239, .int .u8 191, .int .u8 189] 5)) := fun w => conv_new w _ [239, 191, 189] 3 3 rfl rfl
  rcases h with rfl | rfl | ⟨h2, h3⟩ | h2
  · go_enter Try.func26, Try.ntmps26
    go_wp2
    go_ret
    exact ⟨rfl, (Below.refl _ w).alloc (Nat.le_refl _) _⟩
  · go_enter Try.func26, Try.ntmps26
    go_wp2
    go_ret
    exact ⟨rfl, (Below.refl _ w).alloc (Nat.le_refl _) _⟩
  · have e0 : (z == 0) = false := beq_eq_false_iff_ne.2 (by omega)
    have e1 : (z == 13) = false := beq_eq_false_iff_ne.2 (by omega)
    go_enter Try.func26, Try.ntmps26
    go_wp2
    go_ret
    exact ⟨rfl, (Below.refl _ w).alloc (Nat.le_refl _) _⟩
  · have e0 : (z == 0) = false := beq_eq_false_iff_ne.2 (by omega)
    have e1 : (z == 13) = false := beq_eq_false_iff_ne.2 (by omega)
    have e2 : 55296 ≤ z := by omega
    have e3 : ¬ z ≤ 57343 := by omega
    go_enter Try.func26, Try.ntmps26
    go_wp2
    go_ret
    exact ⟨rfl, (Below.refl _ w).alloc (Nat.le_refl _) _⟩

theorem char_any (n : Nat) (hn : n ≤ 16777215) (w : World) :
    Calls Try.prog 26 #[.int .i64 (n : Int)] w fun e w' => e = .returned (.string ⟨(er (chN n)).toArray⟩) ∧ Below w.heap.size w w' := by
  by_cases hb : n = 0 ∨ n = 13 ∨ (55296 ≤ n ∧ n ≤ 57343) ∨ 1114111 < n
  · have : chN n = 65533 := by unfold chN; rw [if_pos hb]
    rw [this]
    exact charBad (n : Int) w (by omega) (by omega) (by omega)
  · have : chN n = n := by unfold chN; rw [if_neg hb]
    rw [this]
    by_cases h1 : n < 128
    · exact char1 n w (by omega) (by omega) h1
    · by_cases h2 : n < 2048
      · exact char2 n w (by omega) h2
      · by_cases h3 : n < 65536
        · exact char3 n w (by omega) h3 (by omega)
        · exact char4 n w (by omega) (by omega)
end Go.Proofs.Ytholfdfjapgfbaa
