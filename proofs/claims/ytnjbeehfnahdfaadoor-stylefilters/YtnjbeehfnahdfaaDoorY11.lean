/-
  A slice of names among the arguments; versolaw07.names.
-/
import Derived.Test.YtnjbeehfnahdfaaDoorY9
import Derived.SliceStrings
import Derived.OpenShut
namespace Go.Proofs.YtnjbeehfnahdfaaDoor
open Go.ChangeShapes Go.WideShapes Go.RowKit
open Utf1 Sty

/-- A slice of strings that came in: its strings' sizes, and its capacity. -/
structure PArg (w : World) (v : Value) (ss : List ByteArray) : Prop where
  arg : StrArg w v ss
  sz : ∀ (i : Nat) (x : ByteArray), ss[i]? = some x → x.size ≤ 9223372036854775807
  cap : ∀ p n c, v = .slice p n c → n ≤ c
theorem PArg.below {w w' : World} {v : Value} {ss : List ByteArray} (h : PArg w v ss) (hb : Below w.heap.size w w') : PArg w' v ss := ⟨h.arg.below hb, h.sz, h.cap⟩
theorem cellsStr : Tryd.prog.cellsOf 9 = 1 := by kernel_rfl
theorem open_strs {H : Type} {enc : TypeId × Value → H} {W : World} {a : Option Addr} {len cap : Nat} {d : DataW H} {p : List MemPlace} (h : DataW.Trod enc Tryd.prog W 0 (fun _ => true) true 22 (.slice a len cap) d p) : ∃ ss, PArg W (.slice a len cap) ss := by
  obtain ⟨fuel, hf⟩ := h
  rcases open_strings Tryd.underlying22 Tryd.underlying9 cellsStr hf with ⟨hcs, _⟩ | ⟨x, l, c, ss, hcs, _, hl, hm, hz, _, hcell, hsz⟩
  · simp [Value.cells] at hcs
    obtain ⟨rfl, rfl, rfl⟩ := hcs
    exact ⟨[], ⟨none, 0, rfl, fun _ => rfl, fun i s h => by simp at h⟩, fun i x h => by simp at h, fun p n c h => by injection h with _ h1 h2; omega⟩
  · simp [Value.cells] at hcs
    obtain ⟨rfl, rfl, rfl⟩ := hcs
    have hz : ss.length = cap := by simpa using hz
    refine ⟨ss.take len, ⟨some x, cap, ?_, fun h => (by cases h), ?_⟩, ?_, fun p n c h => by injection h with _ h1 h2; omega⟩
    · rw [List.length_take, Nat.min_eq_left (by omega)]
    · intro i s hi
      have hil : i < ss.length := by
        have := (List.getElem?_eq_some_iff.1 hi).1
        rw [List.length_take] at this
        omega
      have hilen : i < len := by
        have := (List.getElem?_eq_some_iff.1 hi).1
        rw [List.length_take] at this
        omega
      rw [List.getElem?_take, if_pos hilen] at hi
      have hc := hcell i hil
      have hg : ss.getD i ByteArray.empty = s := by rw [List.getD_eq_getElem?_getD, hi]; rfl
      rw [hg] at hc
      obtain ⟨b, off, spot⟩ := x
      have hspot : spot = none := by simpa [Addr.add] using World.cell?_spot (hcell 0 (by omega))
      subst hspot
      exact ⟨b, off, rfl, by rw [← add_plain]; exact hc⟩
    · intro i y hi
      have := hsz y (List.mem_of_mem_take (List.mem_of_getElem? hi))
      unfold maxLen at this
      omega

def allN (ss : List ByteArray) : Bool := ss.all fun x => isName (bl x)
theorem allN_no {ss : List ByteArray} {i : Nat} {y : ByteArray} (h : ss[i]? = some y) (hn : isName (bl y) = false) : allN ss = false := by
  unfold allN
  rw [List.all_eq_false]
  exact ⟨y, List.mem_of_getElem? h, by rw [hn]; decide⟩
theorem allN_yes {ss : List ByteArray} (h : ∀ i y, i < ss.length → ss[i]? = some y → isName (bl y) = true) : allN ss = true := by
  unfold allN
  rw [List.all_eq_true]
  intro y hy
  obtain ⟨i, hi, e⟩ := List.mem_iff_getElem.1 hy
  exact h i y hi (by rw [List.getElem?_eq_getElem hi, e])
theorem isName_bad {l : L} {k : Nat} {c : UInt8} (h : l[k]? = some c) (hc : nmc c = false) : isName l = false := by
  unfold isName
  rw [Bool.and_eq_false_iff]
  left
  rw [List.all_eq_false]
  exact ⟨c, List.mem_of_getElem? h, by rw [hc]; decide⟩
theorem isName_head {l : L} (h : l[0]? = some 45) : isName l = false := by
  unfold isName
  rw [Bool.and_eq_false_iff]
  right
  refine decide_eq_false ?_
  rintro ⟨_, h1⟩
  exact h1 (by rw [List.head?_eq_getElem?]; exact h)
theorem isName_nil {l : L} (h : l.length = 0) : isName l = false := by
  have : l = [] := List.eq_nil_of_length_eq_zero h
  subst this
  rfl
theorem isName_yes {l : L} (h0 : l.length ≠ 0) (h : ∀ j c, j < l.length → l[j]? = some c → nmc c = true ∧ (j = 0 → c ≠ 45)) : isName l = true := by
  unfold isName
  rw [Bool.and_eq_true, List.all_eq_true, decide_eq_true_eq]
  refine ⟨?_, ?_, ?_⟩
  · intro c hc
    obtain ⟨j, hj, e⟩ := List.mem_iff_getElem.1 hc
    exact (h j c hj (by rw [List.getElem?_eq_getElem hj, e])).1
  · rintro rfl
    exact h0 rfl
  · intro e
    rw [List.head?_eq_getElem?] at e
    exact (h 0 45 (by omega) e).2 rfl rfl
theorem nm_more {l : L} {k : Nat} {c : UInt8} (h : l[k]? = some c) (hc : nmc c = true ∧ (k = 0 → c ≠ 45)) (hu : ∀ j d, j < k → l[j]? = some d → nmc d = true ∧ (j = 0 → d ≠ 45)) : ∀ j d, j < k + 1 → l[j]? = some d → nmc d = true ∧ (j = 0 → d ≠ 45) := by
  intro j d hj hd
  by_cases e : j = k
  · subst e
    rw [h] at hd
    cases hd
    exact hc
  · exact hu j d (by omega) hd

set_option maxRecDepth 100000 in
set_option maxHeartbeats 8000000 in
theorem names_any (v : Value) (ss : List ByteArray) (hl : ss.length ≤ 100000) (w : World) (hv : PArg w v ss) :
    Calls Tryd.prog 14 #[v] w fun e w' => e = .returned (.bool (allN ss)) ∧ w' = w := by
  obtain ⟨R, hR⟩ : ∃ R, R = allN ss := ⟨_, rfl⟩
  rw [← hR]
  have HAL := hide hR
  have HSZ := hide hv.sz
  obtain ⟨p, cap, rfl, -, hc⟩ := hv.arg
  have HC := hide hc
  obtain ⟨N, hN⟩ : ∃ N, N = ss.length := ⟨_, rfl⟩
  rw [← hN] at hl ⊢
  have HN := hide hN
  clear hc hN hR hv
  go_enter Tryd.func14, Tryd.ntmps14
  go_wp2_with fail
  go_loopg [3] N (fun g v wx => wx = w ∧ ∃ i : Nat, i + g = N ∧ v = .int .i64 (i : Int) ∧ Hid (∀ j z, j < i → ss[j]? = some z → isName (bl z) = true))
  case atStart => exact ⟨rfl, 0, by omega, rfl, hide (fun j z hj => by omega)⟩
  case round =>
    obtain ⟨rfl, i, hi, rfl, HU⟩ := hrel
    by_cases hlt : i < N
    · obtain ⟨y, hge⟩ : ∃ y, ss[i]? = some y := ⟨_, List.getElem?_eq_getElem (by rw [← HN.out]; exact hlt)⟩
      obtain ⟨b, off, rfl, c0⟩ := HC.out i y hge
      have hys := HSZ.out i y hge
      have HNO : Hid (isName (bl y) = false → R = false) := hide (fun h => by rw [HAL.out]; exact allN_no hge h)
      have HYES : Hid (isName (bl y) = true → ∀ j z, j < i + 1 → ss[j]? = some z → isName (bl z) = true) := hide (fun h j z hj hz => by
        by_cases e : j = i
        · subst e
          rw [hge] at hz
          cases hz
          exact h
        · exact HU.out j z (by omega) hz)
      have qE := empty_bl y
      clear hge HC HSZ HU
      go_wp2_with fail
      go_loopg [4] y.size (fun g2 v4 wx => wx = wr ∧ ∃ k : Nat, k + g2 = y.size ∧ v4 = .int .i64 (k : Int) ∧ Hid (∀ j d, j < k → (bl y)[j]? = some d → nmc d = true ∧ (j = 0 → d ≠ 45)))
      case atStart => exact ⟨rfl, 0, by omega, rfl, hide (fun j z hj => by omega)⟩
      case round =>
        obtain ⟨rfl, k, hk, rfl, HK⟩ := hrel
        by_cases hky : k < y.size
        · obtain ⟨c, hcc⟩ := getK y k hky
          have ik := fun w => idxK hcc w
          have hcb := c.toNat_lt
          have HM : Hid (nmc c = true ∧ (k = 0 → c ≠ 45) → ∀ j d, j < k + 1 → (bl y)[j]? = some d → nmc d = true ∧ (j = 0 → d ≠ 45)) := hide (fun h => nm_more hcc h HK.out)
          have HB1 : Hid (nmc c = false → R = false) := hide (fun h => HNO.out (isName_bad hcc h))
          have HB2 : Hid (k = 0 → c.toNat = 45 → R = false) := hide (fun h0 h => HNO.out (isName_head (by subst h0; rw [hcc]; congr 1; exact (u8_eq (n := 45) (by decide)).2 h)))
          have HN45 : Hid (c.toNat ≠ 45 → c ≠ 45) := hide (fun h e => h (by rw [e]; rfl))
          have HNM : Hid (nmc c = decide ((97 ≤ c.toNat ∧ c.toNat ≤ 122) ∨ c.toNat = 45)) := hide rfl
          obtain ⟨n, hn⟩ : ∃ n, n = c.toNat := ⟨_, rfl⟩
          rw [← hn] at ik hcb HB2 HN45 HNM
          clear hcc hn HK
          rcases (show n < 45 ∨ n = 45 ∨ (45 < n ∧ n < 97) ∨ (97 ≤ n ∧ n ≤ 122) ∨ 122 < n from by omega) with h | h | h | h | h
          · have HF := hide (HB1.out (by rw [HNM.out]; exact decide_eq_false (by omega)))
            have g97 : decide ((97 : Int) ≤ (n : Int)) = false := decide_eq_false (by omega)
            have e45 : ((n : Int) == 45) = false := beq_eq_false_iff_ne.2 (by omega)
            clear HM HB1 HB2 HN45 HNM h hcb HNO HYES
            by_cases hk0 : 0 < k
            · go_wp2_with fail
              go_ret
              rw [HF.out]
              exact ⟨rfl, rfl⟩
            · go_wp2_with fail
              go_ret
              rw [HF.out]
              exact ⟨rfl, rfl⟩
          · subst h
            have c45 : ((45 : Nat) : Int) = 45 := rfl
            rw [c45] at ik
            by_cases hk0 : 0 < k
            · have HK2 := hide (HM.out ⟨by rw [HNM.out]; decide, fun h => by omega⟩)
              clear HM HB1 HB2 HN45 HNM hcb
              go_wp2_with fail
              go_roundg (y.size - k - 1)
              case measure => omega
              case rel => exact ⟨rfl, k + 1, by omega, by first | rfl | simp, HK2⟩
            · have HF := hide (HB2.out (by omega) rfl)
              clear HM HB1 HB2 HN45 HNM hcb HNO HYES
              go_wp2_with fail
              go_ret
              rw [HF.out]
              exact ⟨rfl, rfl⟩
          · have HF := hide (HB1.out (by rw [HNM.out]; exact decide_eq_false (by omega)))
            have g97 : decide ((97 : Int) ≤ (n : Int)) = false := decide_eq_false (by omega)
            have e45 : ((n : Int) == 45) = false := beq_eq_false_iff_ne.2 (by omega)
            clear HM HB1 HB2 HN45 HNM h hcb HNO HYES
            by_cases hk0 : 0 < k
            · go_wp2_with fail
              go_ret
              rw [HF.out]
              exact ⟨rfl, rfl⟩
            · go_wp2_with fail
              go_ret
              rw [HF.out]
              exact ⟨rfl, rfl⟩
          · have HK2 := hide (HM.out ⟨by rw [HNM.out]; exact decide_eq_true (by omega), fun _ => HN45.out (by omega)⟩)
            have g97 : decide ((97 : Int) ≤ (n : Int)) = true := decide_eq_true (by omega)
            have l122 : decide ((n : Int) ≤ 122) = true := decide_eq_true (by omega)
            clear HM HB1 HB2 HN45 HNM h hcb
            go_wp2_with fail
            go_roundg (y.size - k - 1)
            case measure => omega
            case rel => exact ⟨rfl, k + 1, by omega, by first | rfl | simp, HK2⟩
          · have HF := hide (HB1.out (by rw [HNM.out]; exact decide_eq_false (by omega)))
            have g97 : decide ((97 : Int) ≤ (n : Int)) = true := decide_eq_true (by omega)
            have l122 : decide ((n : Int) ≤ 122) = false := decide_eq_false (by omega)
            have e45 : ((n : Int) == 45) = false := beq_eq_false_iff_ne.2 (by omega)
            clear HM HB1 HB2 HN45 HNM h hcb HNO HYES
            by_cases hk0 : 0 < k
            · go_wp2_with fail
              go_ret
              rw [HF.out]
              exact ⟨rfl, rfl⟩
            · go_wp2_with fail
              go_ret
              rw [HF.out]
              exact ⟨rfl, rfl⟩
        · by_cases hy0 : bl y = []
          · rw [decide_eq_true hy0] at qE
            have HF := hide (HNO.out (isName_nil (by rw [hy0]; rfl)))
            clear HNO HYES hy0 HK
            go_wp2_with fail
            go_ret
            rw [HF.out]
            exact ⟨rfl, rfl⟩
          · rw [decide_eq_false hy0] at qE
            have HU2 := hide (HYES.out (isName_yes (fun h => hy0 (List.eq_nil_of_length_eq_zero h)) (fun j d hj => HK.out j d (by rw [bl_len] at hj; omega))))
            clear HNO HYES hy0 HK
            go_wp2_with fail
            go_roundg (N - i - 1)
            case measure => omega
            case rel => exact ⟨rfl, i + 1, by omega, by first | rfl | simp, HU2⟩
    · have HR : Hid (R = true) := hide (by
        rw [HAL.out]
        exact allN_yes fun j y hj => HU.out j y (by rw [← HN.out] at hj; omega))
      clear HU HAL
      go_wp2_with fail
      go_ret
      rw [HR.out]
      exact ⟨rfl, rfl⟩
end Go.Proofs.YtnjbeehfnahdfaaDoor
