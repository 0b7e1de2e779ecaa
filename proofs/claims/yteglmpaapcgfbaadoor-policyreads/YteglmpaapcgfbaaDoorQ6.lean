/-
  The document's own decimal and lines.
-/
import Derived.Test.YteglmpaapcgfbaaDoorQ5
namespace Go.Proofs.YteglmpaapcgfbaaDoor
open Go.RowKit
open Utf1 Pol8

theorem conv_one (w : World) (t : TypeId) (c : Nat) (hc : c < 256) :
    (convert 44 9 (.slice (some ⟨w.heap.size, 0, none⟩) 1 1)).run Tryd.prog (w.alloc (.cells #[.int .u8 (c : Int)] t)) = .ok (.string ⟨#[UInt8.ofNat c]⟩) (w.alloc (.cells #[.int .u8 (c : Int)] t)) := by
  have := run_convert_bytes_back (P := Tryd.prog) (w.alloc (.cells #[.int .u8 (c : Int)] t)) 44 9 5 ⟨w.heap.size, 0, none⟩ 1 [UInt8.ofNat c] Tryd.underlying44 Tryd.underlying5 Tryd.underlying9 (by
    intro j hj
    have : j = 0 := by simp at hj; omega
    subst this
    rw [add_plain]
    have e : ([UInt8.ofNat c][0]'hj).toNat = c := toNat_ofNat hc
    rw [e]
    simp)
  exact this

set_option maxRecDepth 100000 in
set_option maxHeartbeats 8000000 in
theorem rdecimal_any (n : Nat) (hn : n ≤ 1000000000) (w : World) :
    Calls Tryd.prog 31 #[.int .i64 (n : Int)] w fun e w' => e = .returned (.string ⟨(dec n).toArray⟩) ∧ Below w.heap.size w w' := by
  obtain ⟨R, hR⟩ : ∃ R : ByteArray, R = ⟨(dec n).toArray⟩ := ⟨_, rfl⟩
  rw [← hR]
  have HR : Hid (bl R = dec n) := hide (by rw [hR])
  clear hR
  go_enter Tryd.func31, Tryd.ntmps31
  go_wp2_with fail
  go_loopg [0, 3] n (fun g v0 v3 wx => ∃ (m : Nat) (acc : ByteArray), m ≤ g ∧ m ≤ n ∧ acc.size + m ≤ n ∧ v0 = .int .i64 (m : Int) ∧ v3 = .string acc ∧ Hid (dec n = dec m ++ bl acc ∧ Below w.heap.size w wx))
  case atStart => exact ⟨n, ⟨#[]⟩, Nat.le_refl _, Nat.le_refl _, (by show 0 + n ≤ n; omega), rfl, rfl, hide ⟨by rw [show bl ⟨#[]⟩ = [] from rfl, List.append_nil], Below.refl _ _⟩⟩
  case round =>
    obtain ⟨m, acc, hg, hmn, has, rfl, rfl, HA⟩ := hrel
    by_cases h10 : m < 10
    · have hc := conv_one wr 5 (48 + m) (by omega)
      have e48 : ((48 + m : Nat) : Int) = 48 + (m : Int) := by omega
      rw [e48] at hc
      have HE : Hid (R = ⟨#[UInt8.ofNat (48 + m)]⟩ ++ acc) := hide (by
        apply ba_ext
        rw [HR.out, HA.out.1, dec_small m h10, app_bl])
      have HB := hide (bel_alloc HA.out.2 (.cells #[.int .u8 (48 + (m : Int))] 5))
      have hDs : (⟨#[UInt8.ofNat (48 + m)]⟩ : ByteArray).size = 1 := rfl
      generalize (⟨#[UInt8.ofNat (48 + m)]⟩ : ByteArray) = D at hc HE hDs
      have hacc : acc.size ≤ 1000000000 := by omega
      clear e48
      go_wp2_with fail
      go_ret
      rw [HE.out]
      exact ⟨rfl, HB.out⟩
    · obtain ⟨d, hd⟩ : ∃ d : Nat, d = m % 10 := ⟨_, rfl⟩
      obtain ⟨q, hq⟩ : ∃ q : Nat, q = m / 10 := ⟨_, rfl⟩
      have hrem : (m : Int).tmod 10 = (d : Int) := by rw [hd]; rfl
      have hquo : (m : Int).tdiv 10 = (q : Int) := by rw [hq]; rfl
      have hd10 : d < 10 := by omega
      have hq1 : q + 1 ≤ m := by omega
      have hc := conv_one wr 5 (48 + d) (by omega)
      have e48 : ((48 + d : Nat) : Int) = 48 + (d : Int) := by omega
      rw [e48] at hc
      have HE : Hid (dec n = dec q ++ bl (⟨#[UInt8.ofNat (48 + d)]⟩ ++ acc)) := hide (by
        rw [HA.out.1, dec_big m h10, app_bl, hd, hq, List.append_assoc])
      have HB := hide (bel_alloc HA.out.2 (.cells #[.int .u8 (48 + (d : Int))] 5))
      have hDs : (⟨#[UInt8.ofNat (48 + d)]⟩ : ByteArray).size = 1 := rfl
      generalize (⟨#[UInt8.ofNat (48 + d)]⟩ : ByteArray) = D at hc HE hDs
      have hacc : acc.size ≤ 1000000000 := by omega
      have hms : m ≤ 1000000000 := by omega
      have hAS : (D ++ acc).size + q ≤ n := by rw [app_size]; omega
      clear e48 hd hq HA
      go_wp2_with fail
      go_roundg (gk - 1)
      case measure => omega
      case rel => exact ⟨q, D ++ acc, by omega, by omega, hAS, by first | rfl | simp, rfl, hide ⟨HE.out, HB.out⟩⟩

theorem lns_take (head : L) : ∀ (l : List L) (i : Nat) (x : L), l[i]? = some x → lns head (l.take (i + 1)) = lns head (l.take i) ++ ln head x
  | [], i, x, h => by simp at h
  | y :: l, 0, x, h => by
    have : y = x := by simpa using h
    subst this
    simp [lns]
  | y :: l, i + 1, x, h => by
    have h' : l[i]? = some x := by simpa using h
    rw [List.take_succ_cons, List.take_succ_cons, lns, lns, lns_take head l i x h', List.append_assoc]
theorem lns_len (head : L) : ∀ l : List L, (∀ x ∈ l, x.length ≤ 100000) → (lns head l).length ≤ l.length * (head.length + 100002)
  | [], _ => by simp [lns]
  | x :: l, h => by
    have := lns_len head l (fun y hy => h y (by simp [hy]))
    have hx := h x (by simp)
    rw [lns, List.length_append]
    simp only [ln, List.length_append, List.length_cons, List.length_nil]
    rw [Nat.succ_mul]
    omega

set_option maxRecDepth 100000 in
set_option maxHeartbeats 8000000 in
theorem rlines_any (hd : ByteArray) (v : Value) (ss : List ByteArray) (hh : hd.size ≤ 100) (hl : ss.length ≤ 100000) (hz : ∀ x ∈ ss, x.size ≤ 100000) (w : World) (hv : StrArg w v ss) :
    Calls Tryd.prog 32 #[.string hd, v] w fun e w' => e = .returned (.string ⟨(lns (bl hd) (ss.map bl)).toArray⟩) ∧ w' = w := by
  obtain ⟨R, hR⟩ : ∃ R : ByteArray, R = ⟨(lns (bl hd) (ss.map bl)).toArray⟩ := ⟨_, rfl⟩
  rw [← hR]
  have HR : Hid (bl R = lns (bl hd) (ss.map bl)) := hide (by rw [hR])
  clear hR
  obtain ⟨p, cap, rfl, -, hc⟩ := hv
  have HC := hide hc
  have HZ := hide hz
  obtain ⟨N, hN⟩ : ∃ N, N = ss.length := ⟨_, rfl⟩
  rw [← hN] at hl ⊢
  have HN := hide hN
  clear hc hN hz
  go_enter Tryd.func32, Tryd.ntmps32
  go_wp2_with fail
  go_loopg [5, 6] N (fun g v5 v6 wx => wx = w ∧ ∃ (i : Nat) (acc : ByteArray), i + g = N ∧ v5 = .string acc ∧ v6 = .int .i64 (i : Int) ∧ acc.size ≤ i * 100200 ∧ Hid (bl acc = lns (bl hd) ((ss.map bl).take i)))
  case atStart => exact ⟨rfl, 0, ⟨#[]⟩, by omega, rfl, rfl, by show 0 ≤ _; omega, hide rfl⟩
  case round =>
    obtain ⟨rfl, i, acc, hi, rfl, rfl, has, HA⟩ := hrel
    by_cases hlt : i < N
    · obtain ⟨y, hge⟩ : ∃ y, ss[i]? = some y := ⟨_, List.getElem?_eq_getElem (by rw [← HN.out]; exact hlt)⟩
      obtain ⟨b, off, rfl, c0⟩ := HC.out i y hge
      have hyz := HZ.out y (List.mem_of_getElem? hge)
      have hsz : (acc ++ hd ++ ⟨#[32]⟩ ++ y ++ ⟨#[10]⟩).size ≤ (i + 1) * 100200 := by
        rw [app_size, app_size, app_size, app_size, Nat.succ_mul]
        show _ + _ + 1 + _ + 1 ≤ _
        omega
      have hbound : acc.size ≤ 10020000000 := by
        have : i * 100200 ≤ 100000 * 100200 := Nat.mul_le_mul_right _ (by omega)
        omega
      have HA2 : Hid (bl (acc ++ hd ++ ⟨#[32]⟩ ++ y ++ ⟨#[10]⟩) = lns (bl hd) ((ss.map bl).take (i + 1))) := hide (by
        rw [app_bl, app_bl, app_bl, app_bl, HA.out, lns_take (bl hd) (ss.map bl) i (bl y) (by rw [List.getElem?_map, hge]; rfl)]
        show lns (bl hd) ((ss.map bl).take i) ++ bl hd ++ [32] ++ bl y ++ [10] = _
        simp [ln])
      clear hge HA has
      go_wp2_with fail
      go_roundg (gk - 1)
      case measure => omega
      case rel => exact ⟨rfl, i + 1, acc ++ hd ++ ⟨#[32]⟩ ++ y ++ ⟨#[10]⟩, by omega, by first | rfl | simp, by first | rfl | simp, hsz, HA2⟩
    · have HE : Hid (R = acc) := hide (by
        apply ba_ext
        rw [HR.out, HA.out, List.take_of_length_le (by rw [List.length_map, ← HN.out]; omega)])
      clear HA has
      go_wp2_with fail
      go_ret
      rw [HE.out]
      exact ⟨rfl, rfl⟩
end Go.Proofs.YteglmpaapcgfbaaDoor
