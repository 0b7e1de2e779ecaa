/-
  The program's own words, names that never may stay, lists gone through by a function value.
-/
import Derived.Test.YtmogplecohkjcaaGreatDoorPW
import Derived.Test.YtmogplecohkjcaaGreatDoorShelf
import Derived.Shelf.Abstract
import Derived.Lib.SlicesS
import Derived.Shelf.RegionOpenPlain
import Derived.Laws.Rows
import Derived.Deep.RegionHeld3
namespace Go.Proofs.YtmogplecohkjcaaGreatDoor
open Go.RowKit
open Utf1 Pol8

theorem psmall_any (n : Nat) (hb : n < 256) (w : World) :
    Calls Tryz.prog 68 #[.int .u8 (n : Int)] w fun e w' => e = .returned (.bool (decide (97 ≤ n ∧ n ≤ 122))) ∧ w' = w := by
  obtain ⟨R, hR⟩ : ∃ R, R = decide (97 ≤ n ∧ n ≤ 122) := ⟨_, rfl⟩
  rw [← hR]
  rcases (show n < 97 ∨ (97 ≤ n ∧ n ≤ 122) ∨ 122 < n from by omega) with h | h | h
  · have HR : Hid (R = false) := hide (by rw [hR]; exact decide_eq_false (by omega))
    have g97 : decide ((97 : Int) ≤ (n : Int)) = false := decide_eq_false (by omega)
    clear hR h hb
    go_enter Tryz.func68, Tryz.ntmps68
    go_wp2_with fail
    go_ret
    rw [HR.out]
    exact ⟨rfl, rfl⟩
  · have HR : Hid (R = true) := hide (by rw [hR]; exact decide_eq_true (by omega))
    have g97 : decide ((97 : Int) ≤ (n : Int)) = true := decide_eq_true (by omega)
    have l122 : decide ((n : Int) ≤ 122) = true := decide_eq_true (by omega)
    clear hR h hb
    go_enter Tryz.func68, Tryz.ntmps68
    go_wp2_with fail
    go_ret
    rw [HR.out]
    exact ⟨rfl, rfl⟩
  · have HR : Hid (R = false) := hide (by rw [hR]; exact decide_eq_false (by omega))
    have g97 : decide ((97 : Int) ≤ (n : Int)) = true := decide_eq_true (by omega)
    have l122 : decide ((n : Int) ≤ 122) = false := decide_eq_false (by omega)
    clear hR h hb
    go_enter Tryz.func68, Tryz.ntmps68
    go_wp2_with fail
    go_ret
    rw [HR.out]
    exact ⟨rfl, rfl⟩

theorem word_short {l : L} (h : l.length < 1 ∨ 32 < l.length) : isWord l = false := by
  unfold isWord
  rw [decide_eq_false (by omega)]
  rfl
theorem word_first {l : L} {c : UInt8} (h : l[0]? = some c) (hc : sm c = false) : isWord l = false := by
  unfold isWord
  rw [List.head?_eq_getElem?, h]
  simp [hc]
theorem wc_bad {l : L} {k : Nat} {c : UInt8} (h : l[k]? = some c) (hc : wc c = false) : isWord l = false := by
  cases hw : isWord l
  · rfl
  · exact absurd (List.mem_of_getElem? h) (wc_no c hc hw)
theorem word_yes {l : L} {c : UInt8} (h1 : 1 ≤ l.length) (h2 : l.length ≤ 32) (h : l[0]? = some c) (hc : sm c = true) (ha : ∀ j d, j < l.length → l[j]? = some d → wc d = true) : isWord l = true := by
  unfold isWord
  rw [decide_eq_true ⟨h1, h2⟩, List.head?_eq_getElem?, h, Bool.true_and, Bool.and_eq_true, List.all_eq_true]
  refine ⟨fun d hd => ?_, hc⟩
  obtain ⟨j, hj, e⟩ := List.mem_iff_getElem.1 hd
  exact ha j d hj (by rw [List.getElem?_eq_getElem hj, e])

set_option maxRecDepth 100000 in
set_option maxHeartbeats 8000000 in
theorem pword_any (s : ByteArray) (hs : s.size ≤ 9223372036854775807) (w : World) :
    Calls Tryz.prog 51 #[.string s] w fun e w' => e = .returned (.bool (isWord (bl s))) ∧ w' = w := by
  obtain ⟨R, hR⟩ : ∃ R, R = isWord (bl s) := ⟨_, rfl⟩
  rw [← hR]
  have HAL := hide hR
  clear hR
  by_cases h1 : s.size < 1
  · have HR : Hid (R = false) := hide (by rw [HAL.out]; exact word_short (by rw [bl_len]; omega))
    clear HAL
    go_enter Tryz.func51, Tryz.ntmps51
    go_wp2_with fail
    go_ret
    rw [HR.out]
    exact ⟨rfl, rfl⟩
  by_cases h2 : 32 < s.size
  · have HR : Hid (R = false) := hide (by rw [HAL.out]; exact word_short (by rw [bl_len]; omega))
    clear HAL
    go_enter Tryz.func51, Tryz.ntmps51
    go_wp2_with fail
    go_ret
    rw [HR.out]
    exact ⟨rfl, rfl⟩
  obtain ⟨c0, hc0⟩ := getK s 0 (by omega)
  have ip0 : ∀ w, (Instr.index 9 (.string s) (.int .i64 0)).run Tryz.prog w = .ok (.int .u8 (c0.toNat : Int)) w := fun w => idxK hc0 w
  have cs0 := fun w => psmall_any c0.toNat c0.toNat_lt w
  have HF : Hid (decide (97 ≤ c0.toNat ∧ c0.toNat ≤ 122) = false → R = false) := hide (fun h => by rw [HAL.out]; exact word_first hc0 h)
  have HY : Hid (decide (97 ≤ c0.toNat ∧ c0.toNat ≤ 122) = true → (∀ j d, j < s.size → (bl s)[j]? = some d → wc d = true) → R = true) := hide (fun h ha => by
    rw [HAL.out]
    exact word_yes (by rw [bl_len]; omega) (by rw [bl_len]; omega) hc0 h (by rw [bl_len]; exact ha))
  generalize (c0.toNat : Nat) = n0 at ip0 cs0 HF HY
  clear hc0
  generalize decide (97 ≤ n0 ∧ n0 ≤ 122) = b0 at cs0 HF HY
  cases b0 with
  | false =>
    have HR := hide (HF.out rfl)
    clear HF HY HAL
    go_enter Tryz.func51, Tryz.ntmps51
    go_wp2_with fail
    refine (cs0 _).mono ?_
    rintro e w1 ⟨rfl, rfl⟩
    go_wp2_with fail
    go_ret
    rw [HR.out]
    exact ⟨rfl, rfl⟩
  | true =>
    have HY2 := hide (HY.out rfl)
    clear HF HY
    go_enter Tryz.func51, Tryz.ntmps51
    go_wp2_with fail
    refine (cs0 _).mono ?_
    rintro e w1 ⟨rfl, rfl⟩
    clear cs0 ip0
    go_wp2_with fail
    go_loopg [21] s.size (fun g v wx => wx = w1 ∧ ∃ k : Nat, k + g = s.size ∧ v = .int .i64 (k : Int) ∧ Hid (∀ j c, j < k → (bl s)[j]? = some c → wc c = true))
    case atStart => exact ⟨rfl, 0, by omega, rfl, hide (fun j c hj => by omega)⟩
    case round =>
      obtain ⟨rfl, k, hk, rfl, HU⟩ := hrel
      by_cases hlt : k < s.size
      · obtain ⟨c, hc⟩ := getK s k hlt
        have ip := fun w => idxK hc w
        have cs := fun w => psmall_any c.toNat c.toNat_lt w
        have HOK : Hid (decide ((97 ≤ c.toNat ∧ c.toNat ≤ 122) ∨ (48 ≤ c.toNat ∧ c.toNat ≤ 57) ∨ c.toNat = 45) = true → ∀ j d, j < k + 1 → (bl s)[j]? = some d → wc d = true) := hide (fun h j d hj hd => by
          by_cases e : j = k
          · subst e
            rw [hc] at hd
            cases hd
            exact h
          · exact HU.out j d (by omega) hd)
        have HNO : Hid (decide ((97 ≤ c.toNat ∧ c.toNat ≤ 122) ∨ (48 ≤ c.toNat ∧ c.toNat ≤ 57) ∨ c.toNat = 45) = false → R = false) := hide (fun h => by rw [HAL.out]; exact wc_bad hc h)
        have hb := c.toNat_lt
        obtain ⟨n, hn⟩ : ∃ n, n = c.toNat := ⟨_, rfl⟩
        rw [← hn] at ip cs HOK HNO hb
        clear hc hn HU HAL
        rcases (show n < 45 ∨ n = 45 ∨ (45 < n ∧ n < 48) ∨ (48 ≤ n ∧ n ≤ 57) ∨ (57 < n ∧ n < 97) ∨ (97 ≤ n ∧ n ≤ 122) ∨ 122 < n from by omega) with h | h | h | h | h | h | h
        · have HN := hide (HNO.out (decide_eq_false (by omega)))
          have l48 : decide ((n : Int) < 48) = true := decide_eq_true (by omega)
          have e45 : ((n : Int) != 45) = true := by simp; omega
          rw [decide_eq_false (show ¬ (97 ≤ n ∧ n ≤ 122) by omega)] at cs
          clear HOK HNO h hb
          go_wp2_with fail
          refine (cs _).mono ?_
          rintro e w2 ⟨rfl, rfl⟩
          go_wp2_with fail
          go_ret
          rw [HN.out]
          exact ⟨rfl, rfl⟩
        · subst h
          have HU := hide (HOK.out (decide_eq_true (by omega)))
          have c45 : ((45 : Nat) : Int) = 45 := rfl
          rw [c45] at ip cs
          rw [decide_eq_false (show ¬ (97 ≤ 45 ∧ 45 ≤ 122) by omega)] at cs
          clear HOK HNO hb
          go_wp2_with fail
          refine (cs _).mono ?_
          rintro e w2 ⟨rfl, rfl⟩
          go_wp2_with fail
          go_roundg (s.size - k - 1)
          case measure => omega
          case rel => exact ⟨rfl, k + 1, by omega, by first | rfl | simp, HU⟩
        · have HN := hide (HNO.out (decide_eq_false (by omega)))
          have l48 : decide ((n : Int) < 48) = true := decide_eq_true (by omega)
          have e45 : ((n : Int) != 45) = true := by simp; omega
          rw [decide_eq_false (show ¬ (97 ≤ n ∧ n ≤ 122) by omega)] at cs
          clear HOK HNO h hb
          go_wp2_with fail
          refine (cs _).mono ?_
          rintro e w2 ⟨rfl, rfl⟩
          go_wp2_with fail
          go_ret
          rw [HN.out]
          exact ⟨rfl, rfl⟩
        · have HU := hide (HOK.out (decide_eq_true (by omega)))
          have l48 : decide ((n : Int) < 48) = false := decide_eq_false (by omega)
          have g57 : decide ((57 : Int) < (n : Int)) = false := decide_eq_false (by omega)
          rw [decide_eq_false (show ¬ (97 ≤ n ∧ n ≤ 122) by omega)] at cs
          clear HOK HNO h hb
          go_wp2_with fail
          refine (cs _).mono ?_
          rintro e w2 ⟨rfl, rfl⟩
          go_wp2_with fail
          go_roundg (s.size - k - 1)
          case measure => omega
          case rel => exact ⟨rfl, k + 1, by omega, by first | rfl | simp, HU⟩
        · have HN := hide (HNO.out (decide_eq_false (by omega)))
          have l48 : decide ((n : Int) < 48) = false := decide_eq_false (by omega)
          have g57 : decide ((57 : Int) < (n : Int)) = true := decide_eq_true (by omega)
          have e45 : ((n : Int) != 45) = true := by simp; omega
          rw [decide_eq_false (show ¬ (97 ≤ n ∧ n ≤ 122) by omega)] at cs
          clear HOK HNO h hb
          go_wp2_with fail
          refine (cs _).mono ?_
          rintro e w2 ⟨rfl, rfl⟩
          go_wp2_with fail
          go_ret
          rw [HN.out]
          exact ⟨rfl, rfl⟩
        · have HU := hide (HOK.out (decide_eq_true (by omega)))
          rw [decide_eq_true (show (97 ≤ n ∧ n ≤ 122) by omega)] at cs
          clear HOK HNO h hb
          go_wp2_with fail
          refine (cs _).mono ?_
          rintro e w2 ⟨rfl, rfl⟩
          go_wp2_with fail
          go_roundg (s.size - k - 1)
          case measure => omega
          case rel => exact ⟨rfl, k + 1, by omega, by first | rfl | simp, HU⟩
        · have HN := hide (HNO.out (decide_eq_false (by omega)))
          have l48 : decide ((n : Int) < 48) = false := decide_eq_false (by omega)
          have g57 : decide ((57 : Int) < (n : Int)) = true := decide_eq_true (by omega)
          have e45 : ((n : Int) != 45) = true := by simp; omega
          rw [decide_eq_false (show ¬ (97 ≤ n ∧ n ≤ 122) by omega)] at cs
          clear HOK HNO h hb
          go_wp2_with fail
          refine (cs _).mono ?_
          rintro e w2 ⟨rfl, rfl⟩
          go_wp2_with fail
          go_ret
          rw [HN.out]
          exact ⟨rfl, rfl⟩
      · have HR : Hid (R = true) := hide (HY2.out (fun j c hj => HU.out j c (by omega)))
        clear HU HAL HY2
        go_wp2_with fail
        go_ret
        rw [HR.out]
        exact ⟨rfl, rfl⟩

/-- A function value that tells of texts. -/
def Tells (g : Nat) (lb : Array Value) (p : L → Bool) (w : World) : Prop :=
  ∀ (W : World) (x : ByteArray), x.size ≤ 100000 → Below w.heap.size w W → Calls Tryz.prog g (#[.string x] ++ lb) W fun e w' => e = .returned (.bool (p (bl x))) ∧ Below W.heap.size W w'
theorem Tells.later {g : Nat} {lb : Array Value} {p : L → Bool} {w W : World} (h : Tells g lb p w) (hb : Below w.heap.size w W) : Tells g lb p W :=
  fun W' x hx hb' => h W' x hx (bel2 hb hb')

set_option maxRecDepth 100000 in
set_option maxHeartbeats 8000000 in
theorem peach_any (g : Nat) (lb : Array Value) (eg : ∀ args w, (callFunc g args).run Tryz.prog w = .ok (.enter g args) w) (p : L → Bool) (v : Value) (ss : List ByteArray) (hl : ss.length ≤ 100000) (hz : ∀ x ∈ ss, x.size ≤ 100000) (w : World) (hv : StrArg w v ss) (hp : Tells g lb p w) :
    Calls Tryz.prog 72 #[v, .func (.func g) #[] lb] w fun e w' => e = .returned (.bool ((ss.map bl).all p)) ∧ Below w.heap.size w w' := by
  obtain ⟨R, hR⟩ : ∃ R, R = (ss.map bl).all p := ⟨_, rfl⟩
  rw [← hR]
  have HAL := hide hR
  have HV := hide hv
  have HP := hide hp
  have HZ := hide hz
  obtain ⟨q, cap, rfl, -, -⟩ := hv
  obtain ⟨N, hN⟩ : ∃ N, N = ss.length := ⟨_, rfl⟩
  rw [← hN] at hl HV ⊢
  have HN := hide hN
  clear hR hp hz hN
  go_enter Tryz.func72, Tryz.ntmps72
  go_wp2_with fail
  go_loopg [9] N (fun gg v wx => ∃ i : Nat, i + gg = N ∧ v = .int .i64 (i : Int) ∧ Hid (Below w.heap.size w wx ∧ ∀ j z, j < i → ss[j]? = some z → p (bl z) = true))
  case atStart => exact ⟨0, by omega, rfl, hide ⟨Below.refl _ _, fun j z hj => by omega⟩⟩
  case round =>
    obtain ⟨i, hi, rfl, HU⟩ := hrel
    by_cases hlt : i < N
    · obtain ⟨y, hy⟩ : ∃ y, ss[i]? = some y := ⟨_, List.getElem?_eq_getElem (by rw [← HN.out]; exact hlt)⟩
      obtain ⟨b, off, rfl, c0⟩ : ∃ b off, q = some ⟨b, off, none⟩ ∧ wr.cell? ⟨b, off + i, none⟩ = some (.string y) := by
        obtain ⟨p', cap', e, -, hc⟩ := HV.out.below HU.out.1
        injection e with e1 e2 e3
        obtain ⟨b, off, e4, h⟩ := hc i y hy
        exact ⟨b, off, e1.trans e4, h⟩
      have cS : Calls Tryz.prog g (#[.string y] ++ lb) wr _ := HP.out wr y (HZ.out y (List.mem_of_getElem? hy)) HU.out.1
      have HYES : Hid (p (bl y) = true → ∀ j z, j < i + 1 → ss[j]? = some z → p (bl z) = true) := hide (fun h => upto_next hy h HU.out.2)
      have HNO : Hid (p (bl y) = false → R = false) := hide (fun h => by rw [HAL.out]; exact all_false hy h)
      have HB := hide HU.out.1
      clear hy HU HAL
      generalize p (bl y) = t at cS HYES HNO
      cases t with
      | true =>
        have HU2 := hide (HYES.out rfl)
        clear HYES HNO
        go_wp2_with (go_at_fn g; refine cS.mono ?_; rintro e W' ⟨rfl, hbc⟩)
        have HB2 := hide (bel2 HB.out (by assumption))
        go_roundg (gk - 1)
        case measure => omega
        case rel => exact ⟨i + 1, by omega, by first | rfl | simp, hide ⟨HB2.out, HU2.out⟩⟩
      | false =>
        have HR := hide (HNO.out rfl)
        clear HYES HNO
        go_wp2_with (go_at_fn g; refine cS.mono ?_; rintro e W' ⟨rfl, hbc⟩)
        have HB2 := hide (bel2 HB.out (by assumption))
        go_ret
        rw [HR.out]
        exact ⟨rfl, HB2.out⟩
    · have HR : Hid (R = true) := hide (by rw [HAL.out]; exact all_true (fun j z hj hz => HU.out.2 j z (by rw [← HN.out] at hj; omega) hz))
      clear HAL
      go_wp2_with fail
      go_ret
      rw [HR.out]
      exact ⟨rfl, HU.out.1⟩
end Go.Proofs.YtmogplecohkjcaaGreatDoor

namespace Go.Proofs.YtmogplecohkjcaaGreatDoor
open Go.RowKit
open Utf1 Pol8

theorem ib_some : ∀ (a b : L) (c : UInt8), c ∉ a → Lib.indexByte (a ++ c :: b) c = (a.length : Int)
  | [], b, c, _ => by simp [Lib.indexByte]
  | x :: a, b, c, h => by
    have hx : (x == c) = false := beq_eq_false_iff_ne.2 (fun e => h (by simp [e]))
    have ih := ib_some a b c (fun e => h (by simp [e]))
    rw [List.cons_append, Lib.indexByte, hx, ih]
    have : ((a.length : Int) == -1) = false := beq_eq_false_iff_ne.2 (by omega)
    rw [this]
    simp
theorem ib_none : ∀ (a : L) (c : UInt8), c ∉ a → Lib.indexByte a c = -1
  | [], c, _ => rfl
  | x :: a, c, h => by
    have hx : (x == c) = false := beq_eq_false_iff_ne.2 (fun e => h (by simp [e]))
    have ih := ib_none a c (fun e => h (by simp [e]))
    rw [Lib.indexByte, hx, ih]
    rfl

set_option maxHeartbeats 2000000 in
theorem lcut_none (s : ByteArray) (c : UInt8) (h : c ∉ bl s) (w : World) :
    Calls Tryz.prog 66 #[.string s, .string ⟨#[c]⟩] w fun e w' => e = .returned (.tuple #[.string s, .string ⟨#[]⟩, .bool false]) ∧ w' = w := by
  have c1 := fun w => Tryz.stringslite_Index_one s c w
  rw [ib_none _ c h] at c1
  clear h
  go_enter Tryz.func66, Tryz.ntmps66
  go_wp2_with fail
  refine (c1 _).mono ?_
  rintro e w1 ⟨rfl, rfl⟩
  go_wp2_with fail
  go_ret3
  exact ⟨rfl, rfl⟩
set_option maxHeartbeats 2000000 in
theorem lcut_some (s : ByteArray) (c : UInt8) (A B : ByteArray) (h : bl s = bl A ++ c :: bl B) (hc : c ∉ bl A) (hs : s.size ≤ 100000) (w : World) :
    Calls Tryz.prog 66 #[.string s, .string ⟨#[c]⟩] w fun e w' => e = .returned (.tuple #[.string A, .string B, .bool true]) ∧ Below w.heap.size w w' := by
  have c1 := fun w => Tryz.stringslite_Index_one s c w
  rw [show s.data.toList = _ from h, ib_some _ _ c hc, bl_len] at c1
  have hsz : s.size = A.size + 1 + B.size := by
    have := congrArg List.length h
    rw [bl_len, List.length_append, List.length_cons, bl_len, bl_len] at this
    omega
  have HA : Hid (s.extract 0 A.size = A) := hide (by
    apply ba_ext
    rw [extract_bl, h]
    have : A.size = (bl A).length := (bl_len A).symm
    rw [this]
    simp)
  have HB : Hid (s.extract (A.size + 1) s.size = B) := hide (by
    apply ba_ext
    rw [extract_bl, h, List.drop_append, bl_len]
    rw [List.drop_eq_nil_of_le (by rw [bl_len]; omega)]
    rw [show A.size + 1 - A.size = 1 by omega]
    simp
    rw [List.take_of_length_le (by rw [bl_len]; omega)])
  have k0 : (0 : Int) ≤ (A.size : Int) := by omega
  have k1 : (A.size : Int) ≤ (s.size : Int) := by omega
  have k2 : (0 : Int) ≤ (A.size : Int) + 1 := by omega
  have k3 : (A.size : Int) + 1 ≤ (s.size : Int) := by omega
  have hAs : A.size ≤ 100000 := by omega
  have HS := hide hsz
  clear h hc hsz
  have hA := HA.out
  have hB := HB.out
  go_enter Tryz.func66, Tryz.ntmps66
  go_wp2_with fail
  refine (c1 _).mono ?_
  rintro e w1 ⟨rfl, rfl⟩
  go_wp2_with fail
  go_region
  go_wp2
  go_ret3
  exact ⟨rfl, (Below.refl _ _).drew⟩
set_option maxHeartbeats 2000000 in
theorem cut_none (s : ByteArray) (c : UInt8) (h : c ∉ bl s) (w : World) :
    Calls Tryz.prog 49 #[.string s, .string ⟨#[c]⟩] w fun e w' => e = .returned (.tuple #[.string s, .string ⟨#[]⟩, .bool false]) ∧ Below w.heap.size w w' := by
  have c1 := fun w => lcut_none s c h w
  clear h
  go_enter Tryz.func49, Tryz.ntmps49
  go_wp2_with fail
  refine (c1 _).mono ?_
  rintro e w1 ⟨rfl, rfl⟩
  go_wp2_with fail
  go_ret3
  exact ⟨rfl, Below.refl _ _⟩
set_option maxHeartbeats 2000000 in
theorem cut_some (s : ByteArray) (c : UInt8) (A B : ByteArray) (h : bl s = bl A ++ c :: bl B) (hc : c ∉ bl A) (hs : s.size ≤ 100000) (w : World) :
    Calls Tryz.prog 49 #[.string s, .string ⟨#[c]⟩] w fun e w' => e = .returned (.tuple #[.string A, .string B, .bool true]) ∧ Below w.heap.size w w' := by
  have c1 := fun w => lcut_some s c A B h hc hs w
  clear h hc
  go_enter Tryz.func49, Tryz.ntmps49
  go_wp2_with fail
  refine (c1 _).mono ?_
  rintro e w1 ⟨rfl, hb⟩
  go_wp2_with fail
  go_ret3
  exact ⟨rfl, hb⟩

/-- A name that never may be an attribute's. -/
def nevA (a : L) : Bool := isOn a || decide (a = srcdoc ∨ a = formaction ∨ a = style)
theorem may_is (a : L) : may a = (isWord a && !nevA a) := by
  unfold may nevA
  congr 1
  rw [Bool.not_or]
  congr 1
  by_cases h : a = srcdoc ∨ a = formaction ∨ a = style
  · rw [decide_eq_true h, decide_eq_false (by rintro ⟨h1, h2, h3⟩; rcases h with h | h | h; exact h1 h; exact h2 h; exact h3 h)]
    rfl
  · rw [decide_eq_false h, decide_eq_true (by exact ⟨fun e => h (.inl e), fun e => h (.inr (.inl e)), fun e => h (.inr (.inr e))⟩)]
    rfl
theorem on_pref (l : L) : Lib.hasPrefix l [111, 110] = isOn l := by
  unfold isOn
  rw [← Lib.hasPrefix_of_take]
  by_cases h : l.take 2 = [111, 110]
  · have h2 : 2 ≤ l.length := by
      have := congrArg List.length h
      rw [List.length_take] at this
      simp at this
      omega
    rw [decide_eq_true h, decide_eq_true (by simpa using h2)]
    simpa using h
  · rw [decide_eq_false h]
    exact Bool.and_eq_false_iff.2 (.inr (beq_eq_false_iff_ne.2 h))

set_option maxHeartbeats 8000000 in
theorem pnevA_any (s : ByteArray) (w : World) :
    Calls Tryz.prog 52 #[.string s] w fun e w' => e = .returned (.bool (nevA (bl s))) ∧ w' = w := by
  obtain ⟨R, hR⟩ : ∃ R, R = (nevA (bl s)) := ⟨_, rfl⟩
  rw [← hR]
  have HAL := hide hR
  clear hR
  have f0 := eq_lit s [115, 114, 99, 100, 111, 99]
  by_cases h0 : bl s = [115, 114, 99, 100, 111, 99]
  · rw [decide_eq_true h0] at f0
    have HR : Hid (R = true) := hide (by rw [HAL.out, h0]; decide)
    clear HAL h0
    go_enter Tryz.func52, Tryz.ntmps52
    go_wp2_with fail
    go_ret
    rw [HR.out]
    exact ⟨rfl, rfl⟩
  rw [decide_eq_false h0] at f0
  have f1 := eq_lit s [102, 111, 114, 109, 97, 99, 116, 105, 111, 110]
  by_cases h1 : bl s = [102, 111, 114, 109, 97, 99, 116, 105, 111, 110]
  · rw [decide_eq_true h1] at f1
    have HR : Hid (R = true) := hide (by rw [HAL.out, h1]; decide)
    clear HAL h0 h1
    go_enter Tryz.func52, Tryz.ntmps52
    go_wp2_with fail
    go_ret
    rw [HR.out]
    exact ⟨rfl, rfl⟩
  rw [decide_eq_false h1] at f1
  have f2 := eq_lit s [115, 116, 121, 108, 101]
  by_cases h2 : bl s = [115, 116, 121, 108, 101]
  · rw [decide_eq_true h2] at f2
    have HR : Hid (R = true) := hide (by rw [HAL.out, h2]; decide)
    clear HAL h0 h1 h2
    go_enter Tryz.func52, Tryz.ntmps52
    go_wp2_with fail
    go_ret
    rw [HR.out]
    exact ⟨rfl, rfl⟩
  rw [decide_eq_false h2] at f2
  have HR : Hid (R = isOn (bl s)) := hide (by
    rw [HAL.out]
    unfold nevA
    rw [decide_eq_false (by rintro (h | h | h); exact h0 h; exact h1 h; exact h2 h), Bool.or_false])
  have c1 := fun w => Tryz.strings_HasPrefix s ⟨#[111, 110]⟩ w
  rw [show Lib.hasPrefix s.data.toList (ByteArray.mk #[111, 110]).data.toList = isOn (bl s) from on_pref _] at c1
  clear HAL h0 h1 h2
  go_enter Tryz.func52, Tryz.ntmps52
  go_wp2_with fail
  refine (c1 _).mono ?_
  rintro e w1 ⟨rfl, rfl⟩
  go_wp2_with fail
  go_ret
  rw [HR.out]
  exact ⟨rfl, rfl⟩

set_option maxHeartbeats 8000000 in
theorem pscheme_any (s : ByteArray) (hs : s.size ≤ 9223372036854775807) (w : World) :
    Calls Tryz.prog 58 #[.string s] w fun e w' => e = .returned (.bool (isWord (bl s) && decide (bl s ≠ js ∧ bl s ≠ dat ∧ bl s ≠ vbs))) ∧ w' = w := by
  obtain ⟨R, hR⟩ : ∃ R, R = (isWord (bl s) && decide (bl s ≠ js ∧ bl s ≠ dat ∧ bl s ≠ vbs)) := ⟨_, rfl⟩
  rw [← hR]
  have HAL := hide hR
  clear hR
  have f0 := eq_lit s [106, 97, 118, 97, 115, 99, 114, 105, 112, 116]
  by_cases h0 : bl s = [106, 97, 118, 97, 115, 99, 114, 105, 112, 116]
  · rw [decide_eq_true h0] at f0
    have HR : Hid (R = false) := hide (by rw [HAL.out, h0]; decide)
    clear HAL h0
    go_enter Tryz.func58, Tryz.ntmps58
    go_wp2_with fail
    go_ret
    rw [HR.out]
    exact ⟨rfl, rfl⟩
  rw [decide_eq_false h0] at f0
  have f1 := eq_lit s [100, 97, 116, 97]
  by_cases h1 : bl s = [100, 97, 116, 97]
  · rw [decide_eq_true h1] at f1
    have HR : Hid (R = false) := hide (by rw [HAL.out, h1]; decide)
    clear HAL h0 h1
    go_enter Tryz.func58, Tryz.ntmps58
    go_wp2_with fail
    go_ret
    rw [HR.out]
    exact ⟨rfl, rfl⟩
  rw [decide_eq_false h1] at f1
  have f2 := eq_lit s [118, 98, 115, 99, 114, 105, 112, 116]
  by_cases h2 : bl s = [118, 98, 115, 99, 114, 105, 112, 116]
  · rw [decide_eq_true h2] at f2
    have HR : Hid (R = false) := hide (by rw [HAL.out, h2]; decide)
    clear HAL h0 h1 h2
    go_enter Tryz.func58, Tryz.ntmps58
    go_wp2_with fail
    go_ret
    rw [HR.out]
    exact ⟨rfl, rfl⟩
  rw [decide_eq_false h2] at f2
  have HR : Hid (R = isWord (bl s)) := hide (by
    rw [HAL.out, decide_eq_true (by exact ⟨h0, h1, h2⟩), Bool.and_true])
  have c1 := fun w => pword_any s hs w
  clear HAL h0 h1 h2
  go_enter Tryz.func58, Tryz.ntmps58
  go_wp2_with fail
  refine (c1 _).mono ?_
  rintro e w1 ⟨rfl, rfl⟩
  go_wp2_with fail
  go_ret
  rw [HR.out]
  exact ⟨rfl, rfl⟩

set_option maxHeartbeats 8000000 in
theorem pnever_any (s : ByteArray) (w : World) :
    Calls Tryz.prog 73 #[.string s] w fun e w' => e = .returned (.bool (never (bl s))) ∧ w' = w := by
  obtain ⟨R, hR⟩ : ∃ R, R = (never (bl s)) := ⟨_, rfl⟩
  rw [← hR]
  have HAL := hide hR
  clear hR
  have f0 := eq_lit s [98, 97, 115, 101]
  by_cases h0 : bl s = [98, 97, 115, 101]
  · rw [decide_eq_true h0] at f0
    have HR : Hid (R = true) := hide (by rw [HAL.out, h0]; decide)
    clear HAL h0
    go_enter Tryz.func73, Tryz.ntmps73
    go_wp2_with fail
    go_ret
    rw [HR.out]
    exact ⟨rfl, rfl⟩
  rw [decide_eq_false h0] at f0
  have f1 := eq_lit s [101, 109, 98, 101, 100]
  by_cases h1 : bl s = [101, 109, 98, 101, 100]
  · rw [decide_eq_true h1] at f1
    have HR : Hid (R = true) := hide (by rw [HAL.out, h1]; decide)
    clear HAL h0 h1
    go_enter Tryz.func73, Tryz.ntmps73
    go_wp2_with fail
    go_ret
    rw [HR.out]
    exact ⟨rfl, rfl⟩
  rw [decide_eq_false h1] at f1
  have f2 := eq_lit s [102, 111, 114, 109]
  by_cases h2 : bl s = [102, 111, 114, 109]
  · rw [decide_eq_true h2] at f2
    have HR : Hid (R = true) := hide (by rw [HAL.out, h2]; decide)
    clear HAL h0 h1 h2
    go_enter Tryz.func73, Tryz.ntmps73
    go_wp2_with fail
    go_ret
    rw [HR.out]
    exact ⟨rfl, rfl⟩
  rw [decide_eq_false h2] at f2
  have f3 := eq_lit s [105, 110, 112, 117, 116]
  by_cases h3 : bl s = [105, 110, 112, 117, 116]
  · rw [decide_eq_true h3] at f3
    have HR : Hid (R = true) := hide (by rw [HAL.out, h3]; decide)
    clear HAL h0 h1 h2 h3
    go_enter Tryz.func73, Tryz.ntmps73
    go_wp2_with fail
    go_ret
    rw [HR.out]
    exact ⟨rfl, rfl⟩
  rw [decide_eq_false h3] at f3
  have f4 := eq_lit s [108, 105, 110, 107]
  by_cases h4 : bl s = [108, 105, 110, 107]
  · rw [decide_eq_true h4] at f4
    have HR : Hid (R = true) := hide (by rw [HAL.out, h4]; decide)
    clear HAL h0 h1 h2 h3 h4
    go_enter Tryz.func73, Tryz.ntmps73
    go_wp2_with fail
    go_ret
    rw [HR.out]
    exact ⟨rfl, rfl⟩
  rw [decide_eq_false h4] at f4
  have f5 := eq_lit s [109, 97, 116, 104]
  by_cases h5 : bl s = [109, 97, 116, 104]
  · rw [decide_eq_true h5] at f5
    have HR : Hid (R = true) := hide (by rw [HAL.out, h5]; decide)
    clear HAL h0 h1 h2 h3 h4 h5
    go_enter Tryz.func73, Tryz.ntmps73
    go_wp2_with fail
    go_ret
    rw [HR.out]
    exact ⟨rfl, rfl⟩
  rw [decide_eq_false h5] at f5
  have f6 := eq_lit s [109, 101, 116, 97]
  by_cases h6 : bl s = [109, 101, 116, 97]
  · rw [decide_eq_true h6] at f6
    have HR : Hid (R = true) := hide (by rw [HAL.out, h6]; decide)
    clear HAL h0 h1 h2 h3 h4 h5 h6
    go_enter Tryz.func73, Tryz.ntmps73
    go_wp2_with fail
    go_ret
    rw [HR.out]
    exact ⟨rfl, rfl⟩
  rw [decide_eq_false h6] at f6
  have f7 := eq_lit s [111, 98, 106, 101, 99, 116]
  by_cases h7 : bl s = [111, 98, 106, 101, 99, 116]
  · rw [decide_eq_true h7] at f7
    have HR : Hid (R = true) := hide (by rw [HAL.out, h7]; decide)
    clear HAL h0 h1 h2 h3 h4 h5 h6 h7
    go_enter Tryz.func73, Tryz.ntmps73
    go_wp2_with fail
    go_ret
    rw [HR.out]
    exact ⟨rfl, rfl⟩
  rw [decide_eq_false h7] at f7
  have f8 := eq_lit s [112, 97, 114, 97, 109]
  by_cases h8 : bl s = [112, 97, 114, 97, 109]
  · rw [decide_eq_true h8] at f8
    have HR : Hid (R = true) := hide (by rw [HAL.out, h8]; decide)
    clear HAL h0 h1 h2 h3 h4 h5 h6 h7 h8
    go_enter Tryz.func73, Tryz.ntmps73
    go_wp2_with fail
    go_ret
    rw [HR.out]
    exact ⟨rfl, rfl⟩
  rw [decide_eq_false h8] at f8
  have f9 := eq_lit s [115, 101, 108, 101, 99, 116]
  by_cases h9 : bl s = [115, 101, 108, 101, 99, 116]
  · rw [decide_eq_true h9] at f9
    have HR : Hid (R = true) := hide (by rw [HAL.out, h9]; decide)
    clear HAL h0 h1 h2 h3 h4 h5 h6 h7 h8 h9
    go_enter Tryz.func73, Tryz.ntmps73
    go_wp2_with fail
    go_ret
    rw [HR.out]
    exact ⟨rfl, rfl⟩
  rw [decide_eq_false h9] at f9
  have f10 := eq_lit s [115, 118, 103]
  by_cases h10 : bl s = [115, 118, 103]
  · rw [decide_eq_true h10] at f10
    have HR : Hid (R = true) := hide (by rw [HAL.out, h10]; decide)
    clear HAL h0 h1 h2 h3 h4 h5 h6 h7 h8 h9 h10
    go_enter Tryz.func73, Tryz.ntmps73
    go_wp2_with fail
    go_ret
    rw [HR.out]
    exact ⟨rfl, rfl⟩
  rw [decide_eq_false h10] at f10
  have f11 := eq_lit s [116, 101, 109, 112, 108, 97, 116, 101]
  by_cases h11 : bl s = [116, 101, 109, 112, 108, 97, 116, 101]
  · rw [decide_eq_true h11] at f11
    have HR : Hid (R = true) := hide (by rw [HAL.out, h11]; decide)
    clear HAL h0 h1 h2 h3 h4 h5 h6 h7 h8 h9 h10 h11
    go_enter Tryz.func73, Tryz.ntmps73
    go_wp2_with fail
    go_ret
    rw [HR.out]
    exact ⟨rfl, rfl⟩
  rw [decide_eq_false h11] at f11
  have f12 := eq_lit s [110, 111, 115, 99, 114, 105, 112, 116]
  by_cases h12 : bl s = [110, 111, 115, 99, 114, 105, 112, 116]
  · rw [decide_eq_true h12] at f12
    have HR : Hid (R = true) := hide (by rw [HAL.out, h12]; decide)
    clear HAL h0 h1 h2 h3 h4 h5 h6 h7 h8 h9 h10 h11 h12
    go_enter Tryz.func73, Tryz.ntmps73
    go_wp2_with fail
    go_ret
    rw [HR.out]
    exact ⟨rfl, rfl⟩
  rw [decide_eq_false h12] at f12
  have f13 := eq_lit s [102, 114, 97, 109, 101]
  by_cases h13 : bl s = [102, 114, 97, 109, 101]
  · rw [decide_eq_true h13] at f13
    have HR : Hid (R = true) := hide (by rw [HAL.out, h13]; decide)
    clear HAL h0 h1 h2 h3 h4 h5 h6 h7 h8 h9 h10 h11 h12 h13
    go_enter Tryz.func73, Tryz.ntmps73
    go_wp2_with fail
    go_ret
    rw [HR.out]
    exact ⟨rfl, rfl⟩
  rw [decide_eq_false h13] at f13
  have f14 := eq_lit s [102, 114, 97, 109, 101, 115, 101, 116]
  by_cases h14 : bl s = [102, 114, 97, 109, 101, 115, 101, 116]
  · rw [decide_eq_true h14] at f14
    have HR : Hid (R = true) := hide (by rw [HAL.out, h14]; decide)
    clear HAL h0 h1 h2 h3 h4 h5 h6 h7 h8 h9 h10 h11 h12 h13 h14
    go_enter Tryz.func73, Tryz.ntmps73
    go_wp2_with fail
    go_ret
    rw [HR.out]
    exact ⟨rfl, rfl⟩
  rw [decide_eq_false h14] at f14
  have HR : Hid (R = isRaw (bl s)) := hide (by
    rw [HAL.out]
    unfold never
    rw [decide_eq_false (by
      simp only [neverL, List.mem_cons, List.not_mem_nil, or_false]
      rintro (h | h | h | h | h | h | h | h | h | h | h | h | h | h | h)
      all_goals contradiction), Bool.or_false])
  have c1 := fun w => traw_any s w
  clear HAL h0 h1 h2 h3 h4 h5 h6 h7 h8 h9 h10 h11 h12 h13 h14
  generalize isRaw (bl s) = r at c1 HR
  go_enter Tryz.func73, Tryz.ntmps73
  go_wp2_with fail
  refine (c1 _).mono ?_
  rintro e w1 ⟨⟨x, rfl⟩, rfl⟩
  go_wp2_with fail
  go_ret
  rw [HR.out]
  exact ⟨rfl, rfl⟩

theorem pelemOk_any (s : ByteArray) (hs : s.size ≤ 9223372036854775807) (w : World) :
    Calls Tryz.prog 56 #[.string s] w fun e w' => e = .returned (.bool (isWord (bl s) && !never (bl s))) ∧ w' = w := by
  have c1 := fun w => pword_any s hs w
  have c2 := fun w => pnever_any s w
  generalize isWord (bl s) = r at c1 ⊢
  generalize never (bl s) = t at c2 ⊢
  cases r with
  | false =>
    go_enter Tryz.func56, Tryz.ntmps56
    go_wp2_with fail
    refine (c1 _).mono ?_
    rintro e w1 ⟨rfl, rfl⟩
    go_wp2_with fail
    go_ret
    exact ⟨rfl, rfl⟩
  | true =>
    go_enter Tryz.func56, Tryz.ntmps56
    go_wp2_with fail
    refine (c1 _).mono ?_
    rintro e w1 ⟨rfl, rfl⟩
    go_wp2_with fail
    refine (c2 _).mono ?_
    rintro e w1 ⟨rfl, rfl⟩
    go_wp2_with fail
    go_ret
    exact ⟨rfl, rfl⟩

theorem contains_any (X : ByteArray) (v : Value) (ss : List ByteArray) (hl : ss.length ≤ 100000) (w : World) (hv : StrArg w v ss) :
    Calls Tryz.prog 67 #[v, .string X] w fun e w' => e = .returned (.bool (decide (bl X ∈ ss.map bl))) ∧ w' = w := by
  obtain ⟨p, cap, rfl, -, hc⟩ := hv
  cases ss with
  | nil =>
    refine (Tryz.slices_Contains_string_empty p cap X w).mono ?_
    rintro e w' ⟨rfl, rfl⟩
    exact ⟨by simp, rfl⟩
  | cons y r =>
    obtain ⟨b, off, rfl, _⟩ := hc 0 y rfl
    have hcell : ∀ j, j < (y :: r).length → w.cell? ⟨b, off + j, none⟩ = some (.string ((y :: r).getD j ByteArray.empty)) := by
      intro j hj
      obtain ⟨b', off', e, h⟩ := hc j ((y :: r)[j]) (List.getElem?_eq_getElem hj)
      injection e with e
      injection e with e1 e2
      subst e1
      subst e2
      rw [h, List.getD_eq_getElem?_getD, List.getElem?_eq_getElem hj]
      rfl
    refine (Tryz.slices_Contains_string b off (y :: r).length cap (y :: r) X w (Nat.le_refl _) (by omega) hcell).mono ?_
    rintro e w' ⟨rfl, rfl⟩
    refine ⟨?_, rfl⟩
    congr 2
    rw [List.take_length]
    have h1 := Lib.containsS_iff (y :: r) X
    by_cases hm : X ∈ y :: r
    · rw [h1.2 hm, decide_eq_true (List.mem_map_of_mem hm)]
    · have : Lib.containsS (y :: r) X = false := by
        cases h : Lib.containsS (y :: r) X
        · rfl
        · exact absurd (h1.1 h) hm
      rw [this, decide_eq_false]
      intro hx
      obtain ⟨z, hz, e⟩ := List.mem_map.1 hx
      exact hm (by rw [← ba_ext e]; exact hz)

abbrev pvalL (a0 : Int) (v1 v2 v3 v4 v5 : Value) (a6 a7 a8 : Int) : Value := .agg #[.int .i64 a0, v1, v2, v3, v4, v5, .int .i64 a6, .int .i64 a7, .int .i64 a8]
theorem pelem_any (a0 : Int) (v1 v2 v3 v4 v5 : Value) (a6 a7 a8 : Int) (X : ByteArray) (ss : List ByteArray) (hl : ss.length ≤ 100000) (w : World) (hv : StrArg w v1 ss) :
    Calls Tryz.prog 50 #[pvalL a0 v1 v2 v3 v4 v5 a6 a7 a8, .string X] w fun e w' => e = .returned (.bool (decide (bl X ∈ ss.map bl))) ∧ Below w.heap.size w w' := by
  have C1 : Hid (∀ wx, Below w.heap.size w wx → Calls Tryz.prog 67 #[v1, .string X] wx fun e w' => e = .returned (.bool (decide (bl X ∈ ss.map bl))) ∧ w' = wx) := hide (fun wx h => contains_any X v1 ss hl wx (hv.below h))
  generalize decide (bl X ∈ ss.map bl) = R at C1 ⊢
  obtain ⟨w1, hw1⟩ : ∃ w1, w1 = w.alloc (.cells #[.int .i64 a0, v1, v2, v3, v4, v5, .int .i64 a6, .int .i64 a7, .int .i64 a8] 33) := ⟨_, rfl⟩
  have hb1 : Below w.heap.size w w1 := by rw [hw1]; exact bel_alloc (Below.refl _ _) _
  have hbx : w1.heap[w.heap.size]? = some (.cells #[.int .i64 a0, v1, v2, v3, v4, v5, .int .i64 a6, .int .i64 a7, .int .i64 a8] 33 (0, 0)) := by rw [hw1]; exact new_block _ _ _
  have y1 := tag_cell hbx 1 _ rfl
  have C2 := hide (C1.out w1 hb1)
  have HB := hide hb1
  clear hbx hb1 C1 hv
  go_enter Tryz.func50, Tryz.ntmps50
  go_upto_region 1 with fail
  rw [← hw1]
  clear hw1
  go_wp2_with fail
  refine C2.out.mono ?_
  rintro e w2 ⟨rfl, rfl⟩
  go_wp2_with fail
  go_ret
  exact ⟨rfl, HB.out⟩
end Go.Proofs.YtmogplecohkjcaaGreatDoor

namespace Go.Proofs.YtmogplecohkjcaaGreatDoor
open Go.RowKit
open Utf1 Pol8

abbrev capV (a b c : Int) : Value := .agg #[.int .i64 a, .int .i64 b, .int .i64 c]
theorem alloc3_new (w : World) (A B C : Obj) : (((w.alloc A).alloc B).alloc C).heap[w.heap.size + 1 + 1]? = some C := by
  have h := heap_alloc_new ((w.alloc A).alloc B) C
  have e : ((w.alloc A).alloc B).heap.size = w.heap.size + 1 + 1 := by simp
  rw [e] at h
  exact h
set_option maxHeartbeats 8000000 in
theorem pcaps_any (a0 : Int) (v1 v2 v3 v4 v5 : Value) (a6 a7 a8 : Int) (w : World) :
    Calls Tryz.prog 53 #[pvalL a0 v1 v2 v3 v4 v5 a6 a7 a8] w fun e w' => e = .returned (capV a6 a7 a8) ∧ Below w.heap.size w w' := by
  go_enter Tryz.func53, Tryz.ntmps53
  go_wp2_with fail
  refine bodyPost_ret (results_cell_row rfl _ _ (w.heap.size + 1) 79 #[.int .i64 a6, .int .i64 a7, .int .i64 a8] (0, 0) _ rfl ?_ Tryz.underlying79 rfl (by kernel_rfl)) rfl ?_
  · exact heap_alloc2_new _ _ _
  · exact ⟨rfl, bel_alloc (bel_alloc (Below.refl _ _) _) _⟩
set_option maxHeartbeats 8000000 in
theorem pmost_any (a b c x y z : Int) (w : World) :
    Calls Tryz.prog 71 #[capV a b c, capV x y z] w fun e w' => e = .returned (capV (min a x) (min b y) (min c z)) ∧ Below w.heap.size w w' := by
  go_enter Tryz.func71, Tryz.ntmps71
  go_wp2_with fail
  refine bodyPost_ret (results_cell_row rfl _ _ (w.heap.size + 1 + 1) 79 #[.int .i64 (min a x), .int .i64 (min b y), .int .i64 (min c z)] (0, 0) _ rfl ?_ Tryz.underlying79 rfl (by kernel_rfl)) rfl ?_
  · exact alloc3_new _ _ _ _
  · exact ⟨rfl, bel_alloc (bel_alloc (bel_alloc (Below.refl _ _) _) _) _⟩
set_option maxHeartbeats 8000000 in
theorem pleast_any (a b c x y z : Int) (w : World) :
    Calls Tryz.prog 70 #[capV a b c, capV x y z] w fun e w' => e = .returned (capV (max a x) (max b y) (max c z)) ∧ Below w.heap.size w w' := by
  go_enter Tryz.func70, Tryz.ntmps70
  go_wp2_with fail
  refine bodyPost_ret (results_cell_row rfl _ _ (w.heap.size + 1 + 1) 79 #[.int .i64 (max a x), .int .i64 (max b y), .int .i64 (max c z)] (0, 0) _ rfl ?_ Tryz.underlying79 rfl (by kernel_rfl)) rfl ?_
  · exact alloc3_new _ _ _ _
  · exact ⟨rfl, bel_alloc (bel_alloc (bel_alloc (Below.refl _ _) _) _) _⟩

/-- Three boxes of caps. -/
def Box3 (w : World) (A B C : Array Value) (wx : World) : Prop := wx.heap[w.heap.size]? = some (.cells A 79 (0, 0)) ∧ wx.heap[w.heap.size + 1]? = some (.cells B 79 (0, 0)) ∧ wx.heap[w.heap.size + 1 + 1]? = some (.cells C 79 (0, 0)) ∧ Below w.heap.size w wx
theorem Box3.keep {w wx wy : World} {A B C : Array Value} (h : Box3 w A B C wx) (hb : Below wx.heap.size wx wy) : Box3 w A B C wy :=
  ⟨(hb.block _ (Array.getElem?_eq_some_iff.1 h.1).1).trans h.1, (hb.block _ (Array.getElem?_eq_some_iff.1 h.2.1).1).trans h.2.1, (hb.block _ (Array.getElem?_eq_some_iff.1 h.2.2.1).1).trans h.2.2.1, h.2.2.2.trans (hb.mono h.2.2.2.size)⟩
theorem Box3.new (w : World) (A B C : Array Value) : Box3 w A B C (((w.alloc (.cells A 79)).alloc (.cells B 79)).alloc (.cells C 79)) := by
  refine ⟨?_, ?_, alloc3_new _ _ _ _, bel_alloc (bel_alloc (bel_alloc (Below.refl _ _) _) _) _⟩
  · rw [Below.heap_alloc _ _ _ (by simp; omega), Below.heap_alloc _ _ _ (by simp)]
    exact new_block _ _ _
  · rw [Below.heap_alloc _ _ _ (by simp)]
    exact heap_alloc2_new _ _ _
set_option maxRecDepth 100000 in
set_option maxHeartbeats 8000000 in
theorem pmayBe_any (a b c : Int) (w : World) :
    Calls Tryz.prog 54 #[capV a b c] w fun e w' => e = .returned (.bool (decide ((1 ≤ a ∧ a ≤ 64) ∧ (1 ≤ b ∧ b ≤ 2000) ∧ (1 ≤ c ∧ c ≤ 16384)))) ∧ Below w.heap.size w w' := by
  obtain ⟨w1, hw1⟩ : ∃ w1, w1 = ((w.alloc (.cells #[.int .i64 a, .int .i64 b, .int .i64 c] 79)).alloc (.cells #[.int .i64 1, .int .i64 1, .int .i64 1] 79)).alloc (.cells #[.int .i64 64, .int .i64 2000, .int .i64 16384] 79) := ⟨_, rfl⟩
  have HN : Hid (Box3 w #[.int .i64 a, .int .i64 b, .int .i64 c] #[.int .i64 1, .int .i64 1, .int .i64 1] #[.int .i64 64, .int .i64 2000, .int .i64 16384] w1) := hide (by rw [hw1]; exact Box3.new _ _ _ _)
  have SK : Hid (∀ wx, Box3 w #[.int .i64 a, .int .i64 b, .int .i64 c] #[.int .i64 1, .int .i64 1, .int .i64 1] #[.int .i64 64, .int .i64 2000, .int .i64 16384] wx → wx.cell? ⟨w.heap.size, 0, none⟩ = some (.int .i64 a) ∧ wx.cell? ⟨w.heap.size, 1, none⟩ = some (.int .i64 b) ∧ wx.cell? ⟨w.heap.size, 2, none⟩ = some (.int .i64 c) ∧ wx.cell? ⟨w.heap.size + 1, 0, none⟩ = some (.int .i64 1) ∧ wx.cell? ⟨w.heap.size + 1, 1, none⟩ = some (.int .i64 1) ∧ wx.cell? ⟨w.heap.size + 1, 2, none⟩ = some (.int .i64 1) ∧ wx.cell? ⟨w.heap.size + 1 + 1, 0, none⟩ = some (.int .i64 64) ∧ wx.cell? ⟨w.heap.size + 1 + 1, 1, none⟩ = some (.int .i64 2000) ∧ wx.cell? ⟨w.heap.size + 1 + 1, 2, none⟩ = some (.int .i64 16384) ∧ Hid (Box3 w #[.int .i64 a, .int .i64 b, .int .i64 c] #[.int .i64 1, .int .i64 1, .int .i64 1] #[.int .i64 64, .int .i64 2000, .int .i64 16384] wx)) := hide (fun wx h => ⟨tag_cell h.1 0 _ rfl, tag_cell h.1 1 _ rfl, tag_cell h.1 2 _ rfl, tag_cell h.2.1 0 _ rfl, tag_cell h.2.1 1 _ rfl, tag_cell h.2.1 2 _ rfl, tag_cell h.2.2.1 0 _ rfl, tag_cell h.2.2.1 1 _ rfl, tag_cell h.2.2.1 2 _ rfl, hide h⟩)
  have SB : Hid (∀ wx, (wx.cell? ⟨w.heap.size, 0, none⟩ = some (.int .i64 a) ∧ wx.cell? ⟨w.heap.size, 1, none⟩ = some (.int .i64 b) ∧ wx.cell? ⟨w.heap.size, 2, none⟩ = some (.int .i64 c) ∧ wx.cell? ⟨w.heap.size + 1, 0, none⟩ = some (.int .i64 1) ∧ wx.cell? ⟨w.heap.size + 1, 1, none⟩ = some (.int .i64 1) ∧ wx.cell? ⟨w.heap.size + 1, 2, none⟩ = some (.int .i64 1) ∧ wx.cell? ⟨w.heap.size + 1 + 1, 0, none⟩ = some (.int .i64 64) ∧ wx.cell? ⟨w.heap.size + 1 + 1, 1, none⟩ = some (.int .i64 2000) ∧ wx.cell? ⟨w.heap.size + 1 + 1, 2, none⟩ = some (.int .i64 16384) ∧ Hid (Box3 w #[.int .i64 a, .int .i64 b, .int .i64 c] #[.int .i64 1, .int .i64 1, .int .i64 1] #[.int .i64 64, .int .i64 2000, .int .i64 16384] wx)) → Box3 w #[.int .i64 a, .int .i64 b, .int .i64 c] #[.int .i64 1, .int .i64 1, .int .i64 1] #[.int .i64 64, .int .i64 2000, .int .i64 16384] wx) := hide (fun wx h => h.2.2.2.2.2.2.2.2.2.out)
  have C1 : Hid (∀ wx, Box3 w #[.int .i64 a, .int .i64 b, .int .i64 c] #[.int .i64 1, .int .i64 1, .int .i64 1] #[.int .i64 64, .int .i64 2000, .int .i64 16384] wx → Calls Tryz.prog 70 #[capV a b c, capV 1 1 1] wx fun e w' => e = .returned (capV (max a 1) (max b 1) (max c 1)) ∧ Box3 w #[.int .i64 a, .int .i64 b, .int .i64 c] #[.int .i64 1, .int .i64 1, .int .i64 1] #[.int .i64 64, .int .i64 2000, .int .i64 16384] w') := hide (fun wx h => (pleast_any a b c 1 1 1 wx).mono fun e w' ⟨h1, h2⟩ => ⟨h1, h.keep h2⟩)
  have C2 : Hid (∀ wx, Box3 w #[.int .i64 a, .int .i64 b, .int .i64 c] #[.int .i64 1, .int .i64 1, .int .i64 1] #[.int .i64 64, .int .i64 2000, .int .i64 16384] wx → Calls Tryz.prog 71 #[capV (max a 1) (max b 1) (max c 1), capV 64 2000 16384] wx fun e w' => e = .returned (capV (min (max a 1) 64) (min (max b 1) 2000) (min (max c 1) 16384)) ∧ Box3 w #[.int .i64 a, .int .i64 b, .int .i64 c] #[.int .i64 1, .int .i64 1, .int .i64 1] #[.int .i64 64, .int .i64 2000, .int .i64 16384] w') := hide (fun wx h => (pmost_any (max a 1) (max b 1) (max c 1) 64 2000 16384 wx).mono fun e w' ⟨h1, h2⟩ => ⟨h1, h.keep h2⟩)
  obtain ⟨R, hR⟩ : ∃ R, R = decide ((1 ≤ a ∧ a ≤ 64) ∧ (1 ≤ b ∧ b ≤ 2000) ∧ (1 ≤ c ∧ c ≤ 16384)) := ⟨_, rfl⟩
  rw [← hR]
  have HRR : Hid (R = ((a == min (max a 1) 64) && ((b == min (max b 1) 2000) && (c == min (max c 1) 16384)))) := hide (by
    rw [hR]
    apply Bool.eq_iff_iff.2
    simp only [decide_eq_true_eq, Bool.and_eq_true, beq_iff_eq]
    omega)
  clear hR
  generalize max a 1 = a1 at C1 C2 HRR
  generalize max b 1 = b1 at C1 C2 HRR
  generalize max c 1 = c1 at C1 C2 HRR
  generalize min a1 64 = a2 at C2 HRR
  generalize min b1 2000 = b2 at C2 HRR
  generalize min c1 16384 = c2 at C2 HRR
  cases h1 : (a == a2) <;> cases h2 : (b == b2) <;> cases h3 : (c == c2)
  all_goals
    rw [h1, h2, h3] at HRR
    go_enter Tryz.func54, Tryz.ntmps54
    go_upto_region 3 with fail
    rw [← hw1]
    clear hw1
    go_region_held3 (fun wx => wx.cell? ⟨w.heap.size, 0, none⟩ = some (.int .i64 a) ∧ wx.cell? ⟨w.heap.size, 1, none⟩ = some (.int .i64 b) ∧ wx.cell? ⟨w.heap.size, 2, none⟩ = some (.int .i64 c) ∧ wx.cell? ⟨w.heap.size + 1, 0, none⟩ = some (.int .i64 1) ∧ wx.cell? ⟨w.heap.size + 1, 1, none⟩ = some (.int .i64 1) ∧ wx.cell? ⟨w.heap.size + 1, 2, none⟩ = some (.int .i64 1) ∧ wx.cell? ⟨w.heap.size + 1 + 1, 0, none⟩ = some (.int .i64 64) ∧ wx.cell? ⟨w.heap.size + 1 + 1, 1, none⟩ = some (.int .i64 2000) ∧ wx.cell? ⟨w.heap.size + 1 + 1, 2, none⟩ = some (.int .i64 16384) ∧ Hid (Box3 w #[.int .i64 a, .int .i64 b, .int .i64 c] #[.int .i64 1, .int .i64 1, .int .i64 1] #[.int .i64 64, .int .i64 2000, .int .i64 16384] wx))
      (first | exact SK.out _ (HN.out.keep ((Below.refl _ _).drew)) | exact SK.out _ (by assumption))
      (first
        | (go_at_call 70; refine (C1.out _ (SB.out _ (by assumption))).mono ?_; rintro e w6 ⟨rfl, h6⟩)
        | (go_at_call 71; refine (C2.out _ (SB.out _ (by assumption))).mono ?_; rintro e w6 ⟨rfl, h6⟩))
    all_goals
      have H7 := hide (SB.out _ (by assumption))
      go_wp2_with fail
      go_ret
      rw [HRR.out]
      exact ⟨rfl, H7.out.2.2.2⟩
end Go.Proofs.YtmogplecohkjcaaGreatDoor
