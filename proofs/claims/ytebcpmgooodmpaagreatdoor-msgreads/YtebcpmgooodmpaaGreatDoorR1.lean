/-
  The program's own words, names that never may stay, lists gone through by a function value.
-/
import Derived.Test.YtebcpmgooodmpaaGreatDoorPW
import Derived.Test.YtebcpmgooodmpaaGreatDoorShelf
import Derived.Shelf.Abstract
import Derived.Lib.SlicesS
namespace Go.Proofs.YtebcpmgooodmpaaGreatDoor
open Go.RowKit
open Utf1 Pol8

theorem psmall_any (n : Nat) (hb : n < 256) (w : World) :
    Calls Tryz.prog 79 #[.int .u8 (n : Int)] w fun e w' => e = .returned (.bool (decide (97 ≤ n ∧ n ≤ 122))) ∧ w' = w := by
  obtain ⟨R, hR⟩ : ∃ R, R = decide (97 ≤ n ∧ n ≤ 122) := ⟨_, rfl⟩
  rw [← hR]
  rcases (show n < 97 ∨ (97 ≤ n ∧ n ≤ 122) ∨ 122 < n from by omega) with h | h | h
  · have HR : Hid (R = false) := hide (by rw [hR]; exact decide_eq_false (by omega))
    have g97 : decide ((97 : Int) ≤ (n : Int)) = false := decide_eq_false (by omega)
    clear hR h hb
    go_enter Tryz.func79, Tryz.ntmps79
    go_wp2_with fail
    go_ret
    rw [HR.out]
    exact ⟨rfl, rfl⟩
  · have HR : Hid (R = true) := hide (by rw [hR]; exact decide_eq_true (by omega))
    have g97 : decide ((97 : Int) ≤ (n : Int)) = true := decide_eq_true (by omega)
    have l122 : decide ((n : Int) ≤ 122) = true := decide_eq_true (by omega)
    clear hR h hb
    go_enter Tryz.func79, Tryz.ntmps79
    go_wp2_with fail
    go_ret
    rw [HR.out]
    exact ⟨rfl, rfl⟩
  · have HR : Hid (R = false) := hide (by rw [hR]; exact decide_eq_false (by omega))
    have g97 : decide ((97 : Int) ≤ (n : Int)) = true := decide_eq_true (by omega)
    have l122 : decide ((n : Int) ≤ 122) = false := decide_eq_false (by omega)
    clear hR h hb
    go_enter Tryz.func79, Tryz.ntmps79
    go_wp2_with fail
    go_ret
    rw [HR.out]
    exact ⟨rfl, rfl⟩

theorem word_short {l : L} (h : l.length < 1 ∨ 32 < l.length) : isWord l = false := by
  unfold isWord
  rw [decide_eq_false (by omega)]
  rfl
theorem word_first {l : L} {c : UInt8} (h : l[0]? = some c) (hc : sm c = false) : isWord l = false := by
  unfold isWord
  rw [List.head?_eq_getElem?, h]
  simp [hc]
theorem wc_bad {l : L} {k : Nat} {c : UInt8} (h : l[k]? = some c) (hc : wc c = false) : isWord l = false := by
  cases hw : isWord l
  · rfl
  · exact absurd (List.mem_of_getElem? h) (wc_no c hc hw)
theorem word_yes {l : L} {c : UInt8} (h1 : 1 ≤ l.length) (h2 : l.length ≤ 32) (h : l[0]? = some c) (hc : sm c = true) (ha : ∀ j d, j < l.length → l[j]? = some d → wc d = true) : isWord l = true := by
  unfold isWord
  rw [decide_eq_true ⟨h1, h2⟩, List.head?_eq_getElem?, h, Bool.true_and, Bool.and_eq_true, List.all_eq_true]
  refine ⟨fun d hd => ?_, hc⟩
  obtain ⟨j, hj, e⟩ := List.mem_iff_getElem.1 hd
  exact ha j d hj (by rw [List.getElem?_eq_getElem hj, e])

set_option maxRecDepth 100000 in
set_option maxHeartbeats 8000000 in
theorem pword_any (s : ByteArray) (hs : s.size ≤ 9223372036854775807) (w : World) :
    Calls Tryz.prog 49 #[.string s] w fun e w' => e = .returned (.bool (isWord (bl s))) ∧ w' = w := by
  obtain ⟨R, hR⟩ : ∃ R, R = isWord (bl s) := ⟨_, rfl⟩
  rw [← hR]
  have HAL := hide hR
  clear hR
  by_cases h1 : s.size < 1
  · have HR : Hid (R = false) := hide (by rw [HAL.out]; exact word_short (by rw [bl_len]; omega))
    clear HAL
    go_enter Tryz.func49, Tryz.ntmps49
    go_wp2_with fail
    go_ret
    rw [HR.out]
    exact ⟨rfl, rfl⟩
  by_cases h2 : 32 < s.size
  · have HR : Hid (R = false) := hide (by rw [HAL.out]; exact word_short (by rw [bl_len]; omega))
    clear HAL
    go_enter Tryz.func49, Tryz.ntmps49
    go_wp2_with fail
    go_ret
    rw [HR.out]
    exact ⟨rfl, rfl⟩
  obtain ⟨c0, hc0⟩ := getK s 0 (by omega)
  have ip0 : ∀ w, (Instr.index 9 (.string s) (.int .i64 0)).run Tryz.prog w = .ok (.int .u8 (c0.toNat : Int)) w := fun w => idxK hc0 w
  have cs0 := fun w => psmall_any c0.toNat c0.toNat_lt w
  have HF : Hid (decide (97 ≤ c0.toNat ∧ c0.toNat ≤ 122) = false → R = false) := hide (fun h => by rw [HAL.out]; exact word_first hc0 h)
  have HY : Hid (decide (97 ≤ c0.toNat ∧ c0.toNat ≤ 122) = true → (∀ j d, j < s.size → (bl s)[j]? = some d → wc d = true) → R = true) := hide (fun h ha => by
    rw [HAL.out]
    exact word_yes (by rw [bl_len]; omega) (by rw [bl_len]; omega) hc0 h (by rw [bl_len]; exact ha))
  generalize (c0.toNat : Nat) = n0 at ip0 cs0 HF HY
  clear hc0
  generalize decide (97 ≤ n0 ∧ n0 ≤ 122) = b0 at cs0 HF HY
  cases b0 with
  | false =>
    have HR := hide (HF.out rfl)
    clear HF HY HAL
    go_enter Tryz.func49, Tryz.ntmps49
    go_wp2_with fail
    refine (cs0 _).mono ?_
    rintro e w1 ⟨rfl, rfl⟩
    go_wp2_with fail
    go_ret
    rw [HR.out]
    exact ⟨rfl, rfl⟩
  | true =>
    have HY2 := hide (HY.out rfl)
    clear HF HY
    go_enter Tryz.func49, Tryz.ntmps49
    go_wp2_with fail
    refine (cs0 _).mono ?_
    rintro e w1 ⟨rfl, rfl⟩
    clear cs0 ip0
    go_wp2_with fail
    go_loopg [21] s.size (fun g v wx => wx = w1 ∧ ∃ k : Nat, k + g = s.size ∧ v = .int .i64 (k : Int) ∧ Hid (∀ j c, j < k → (bl s)[j]? = some c → wc c = true))
    case atStart => exact ⟨rfl, 0, by omega, rfl, hide (fun j c hj => by omega)⟩
    case round =>
      obtain ⟨rfl, k, hk, rfl, HU⟩ := hrel
      by_cases hlt : k < s.size
      · obtain ⟨c, hc⟩ := getK s k hlt
        have ip := fun w => idxK hc w
        have cs := fun w => psmall_any c.toNat c.toNat_lt w
        have HOK : Hid (decide ((97 ≤ c.toNat ∧ c.toNat ≤ 122) ∨ (48 ≤ c.toNat ∧ c.toNat ≤ 57) ∨ c.toNat = 45) = true → ∀ j d, j < k + 1 → (bl s)[j]? = some d → wc d = true) := hide (fun h j d hj hd => by
          by_cases e : j = k
          · subst e
            rw [hc] at hd
            cases hd
            exact h
          · exact HU.out j d (by omega) hd)
        have HNO : Hid (decide ((97 ≤ c.toNat ∧ c.toNat ≤ 122) ∨ (48 ≤ c.toNat ∧ c.toNat ≤ 57) ∨ c.toNat = 45) = false → R = false) := hide (fun h => by rw [HAL.out]; exact wc_bad hc h)
        have hb := c.toNat_lt
        obtain ⟨n, hn⟩ : ∃ n, n = c.toNat := ⟨_, rfl⟩
        rw [← hn] at ip cs HOK HNO hb
        clear hc hn HU HAL
        rcases (show n < 45 ∨ n = 45 ∨ (45 < n ∧ n < 48) ∨ (48 ≤ n ∧ n ≤ 57) ∨ (57 < n ∧ n < 97) ∨ (97 ≤ n ∧ n ≤ 122) ∨ 122 < n from by omega) with h | h | h | h | h | h | h
        · have HN := hide (HNO.out (decide_eq_false (by omega)))
          have l48 : decide ((n : Int) < 48) = true := decide_eq_true (by omega)
          have e45 : ((n : Int) != 45) = true := by simp; omega
          rw [decide_eq_false (show ¬ (97 ≤ n ∧ n ≤ 122) by omega)] at cs
          clear HOK HNO h hb
          go_wp2_with fail
          refine (cs _).mono ?_
          rintro e w2 ⟨rfl, rfl⟩
          go_wp2_with fail
          go_ret
          rw [HN.out]
          exact ⟨rfl, rfl⟩
        · subst h
          have HU := hide (HOK.out (decide_eq_true (by omega)))
          have c45 : ((45 : Nat) : Int) = 45 := rfl
          rw [c45] at ip cs
          rw [decide_eq_false (show ¬ (97 ≤ 45 ∧ 45 ≤ 122) by omega)] at cs
          clear HOK HNO hb
          go_wp2_with fail
          refine (cs _).mono ?_
          rintro e w2 ⟨rfl, rfl⟩
          go_wp2_with fail
          go_roundg (s.size - k - 1)
          case measure => omega
          case rel => exact ⟨rfl, k + 1, by omega, by first | rfl | simp, HU⟩
        · have HN := hide (HNO.out (decide_eq_false (by omega)))
          have l48 : decide ((n : Int) < 48) = true := decide_eq_true (by omega)
          have e45 : ((n : Int) != 45) = true := by simp; omega
          rw [decide_eq_false (show ¬ (97 ≤ n ∧ n ≤ 122) by omega)] at cs
          clear HOK HNO h hb
          go_wp2_with fail
          refine (cs _).mono ?_
          rintro e w2 ⟨rfl, rfl⟩
          go_wp2_with fail
          go_ret
          rw [HN.out]
          exact ⟨rfl, rfl⟩
        · have HU := hide (HOK.out (decide_eq_true (by omega)))
          have l48 : decide ((n : Int) < 48) = false := decide_eq_false (by omega)
          have g57 : decide ((57 : Int) < (n : Int)) = false := decide_eq_false (by omega)
          rw [decide_eq_false (show ¬ (97 ≤ n ∧ n ≤ 122) by omega)] at cs
          clear HOK HNO h hb
          go_wp2_with fail
          refine (cs _).mono ?_
          rintro e w2 ⟨rfl, rfl⟩
          go_wp2_with fail
          go_roundg (s.size - k - 1)
          case measure => omega
          case rel => exact ⟨rfl, k + 1, by omega, by first | rfl | simp, HU⟩
        · have HN := hide (HNO.out (decide_eq_false (by omega)))
          have l48 : decide ((n : Int) < 48) = false := decide_eq_false (by omega)
          have g57 : decide ((57 : Int) < (n : Int)) = true := decide_eq_true (by omega)
          have e45 : ((n : Int) != 45) = true := by simp; omega
          rw [decide_eq_false (show ¬ (97 ≤ n ∧ n ≤ 122) by omega)] at cs
          clear HOK HNO h hb
          go_wp2_with fail
          refine (cs _).mono ?_
          rintro e w2 ⟨rfl, rfl⟩
          go_wp2_with fail
          go_ret
          rw [HN.out]
          exact ⟨rfl, rfl⟩
        · have HU := hide (HOK.out (decide_eq_true (by omega)))
          rw [decide_eq_true (show (97 ≤ n ∧ n ≤ 122) by omega)] at cs
          clear HOK HNO h hb
          go_wp2_with fail
          refine (cs _).mono ?_
          rintro e w2 ⟨rfl, rfl⟩
          go_wp2_with fail
          go_roundg (s.size - k - 1)
          case measure => omega
          case rel => exact ⟨rfl, k + 1, by omega, by first | rfl | simp, HU⟩
        · have HN := hide (HNO.out (decide_eq_false (by omega)))
          have l48 : decide ((n : Int) < 48) = false := decide_eq_false (by omega)
          have g57 : decide ((57 : Int) < (n : Int)) = true := decide_eq_true (by omega)
          have e45 : ((n : Int) != 45) = true := by simp; omega
          rw [decide_eq_false (show ¬ (97 ≤ n ∧ n ≤ 122) by omega)] at cs
          clear HOK HNO h hb
          go_wp2_with fail
          refine (cs _).mono ?_
          rintro e w2 ⟨rfl, rfl⟩
          go_wp2_with fail
          go_ret
          rw [HN.out]
          exact ⟨rfl, rfl⟩
      · have HR : Hid (R = true) := hide (HY2.out (fun j c hj => HU.out j c (by omega)))
        clear HU HAL HY2
        go_wp2_with fail
        go_ret
        rw [HR.out]
        exact ⟨rfl, rfl⟩

/-- A function value that tells of texts. -/
def Tells (g : Nat) (lb : Array Value) (p : L → Bool) (w : World) : Prop :=
  ∀ (W : World) (x : ByteArray), x.size ≤ 100000 → Below w.heap.size w W → Calls Tryz.prog g (#[.string x] ++ lb) W fun e w' => e = .returned (.bool (p (bl x))) ∧ Below W.heap.size W w'
theorem Tells.later {g : Nat} {lb : Array Value} {p : L → Bool} {w W : World} (h : Tells g lb p w) (hb : Below w.heap.size w W) : Tells g lb p W :=
  fun W' x hx hb' => h W' x hx (bel2 hb hb')

set_option maxRecDepth 100000 in
set_option maxHeartbeats 8000000 in
theorem peach_any (g : Nat) (lb : Array Value) (eg : ∀ args w, (callFunc g args).run Tryz.prog w = .ok (.enter g args) w) (p : L → Bool) (v : Value) (ss : List ByteArray) (hl : ss.length ≤ 100000) (hz : ∀ x ∈ ss, x.size ≤ 100000) (w : World) (hv : StrArg w v ss) (hp : Tells g lb p w) :
    Calls Tryz.prog 83 #[v, .func (.func g) #[] lb] w fun e w' => e = .returned (.bool ((ss.map bl).all p)) ∧ Below w.heap.size w w' := by
  obtain ⟨R, hR⟩ : ∃ R, R = (ss.map bl).all p := ⟨_, rfl⟩
  rw [← hR]
  have HAL := hide hR
  have HV := hide hv
  have HP := hide hp
  have HZ := hide hz
  obtain ⟨q, cap, rfl, -, -⟩ := hv
  obtain ⟨N, hN⟩ : ∃ N, N = ss.length := ⟨_, rfl⟩
  rw [← hN] at hl HV ⊢
  have HN := hide hN
  clear hR hp hz hN
  go_enter Tryz.func83, Tryz.ntmps83
  go_wp2_with fail
  go_loopg [9] N (fun gg v wx => ∃ i : Nat, i + gg = N ∧ v = .int .i64 (i : Int) ∧ Hid (Below w.heap.size w wx ∧ ∀ j z, j < i → ss[j]? = some z → p (bl z) = true))
  case atStart => exact ⟨0, by omega, rfl, hide ⟨Below.refl _ _, fun j z hj => by omega⟩⟩
  case round =>
    obtain ⟨i, hi, rfl, HU⟩ := hrel
    by_cases hlt : i < N
    · obtain ⟨y, hy⟩ : ∃ y, ss[i]? = some y := ⟨_, List.getElem?_eq_getElem (by rw [← HN.out]; exact hlt)⟩
      obtain ⟨b, off, rfl, c0⟩ : ∃ b off, q = some ⟨b, off, none⟩ ∧ wr.cell? ⟨b, off + i, none⟩ = some (.string y) := by
        obtain ⟨p', cap', e, -, hc⟩ := HV.out.below HU.out.1
        injection e with e1 e2 e3
        obtain ⟨b, off, e4, h⟩ := hc i y hy
        exact ⟨b, off, e1.trans e4, h⟩
      have cS : Calls Tryz.prog g (#[.string y] ++ lb) wr _ := HP.out wr y (HZ.out y (List.mem_of_getElem? hy)) HU.out.1
      have HYES : Hid (p (bl y) = true → ∀ j z, j < i + 1 → ss[j]? = some z → p (bl z) = true) := hide (fun h => upto_next hy h HU.out.2)
      have HNO : Hid (p (bl y) = false → R = false) := hide (fun h => by rw [HAL.out]; exact all_false hy h)
      have HB := hide HU.out.1
      clear hy HU HAL
      generalize p (bl y) = t at cS HYES HNO
      cases t with
      | true =>
        have HU2 := hide (HYES.out rfl)
        clear HYES HNO
        go_wp2_with (go_at_fn g; refine cS.mono ?_; rintro e W' ⟨rfl, hbc⟩)
        have HB2 := hide (bel2 HB.out (by assumption))
        go_roundg (gk - 1)
        case measure => omega
        case rel => exact ⟨i + 1, by omega, by first | rfl | simp, hide ⟨HB2.out, HU2.out⟩⟩
      | false =>
        have HR := hide (HNO.out rfl)
        clear HYES HNO
        go_wp2_with (go_at_fn g; refine cS.mono ?_; rintro e W' ⟨rfl, hbc⟩)
        have HB2 := hide (bel2 HB.out (by assumption))
        go_ret
        rw [HR.out]
        exact ⟨rfl, HB2.out⟩
    · have HR : Hid (R = true) := hide (by rw [HAL.out]; exact all_true (fun j z hj hz => HU.out.2 j z (by rw [← HN.out] at hj; omega) hz))
      clear HAL
      go_wp2_with fail
      go_ret
      rw [HR.out]
      exact ⟨rfl, HU.out.1⟩
end Go.Proofs.YtebcpmgooodmpaaGreatDoor
