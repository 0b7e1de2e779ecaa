/-
  The document's begins, walked.
-/
import Derived.Test.YtebcpmgooodmpaaGreatDoorMDZ
import Derived.Deep.CutRange
import Derived.Deep.LoopGhost
namespace Go.Proofs.YtebcpmgooodmpaaGreatDoor
open Go.RowKit
open Utf1
open Pol8 hiding text right Right
open Msg15

/-- Does the digits' run go on at place k? -/
def goD (s : L) (k : Nat) : Bool := decide (k < 6) && (match s[k]? with | some c => dig c | none => false)
theorem goD_exit {s : L} {k : Nat} (hk : k ≤ 6) (hl : k ≤ s.length) (hd : (s.take k).all dig = true) (h : goD s k = false) : kd s = s.take k := by
  refine kd_exit hk hl hd ?_
  unfold goD at h
  by_cases h6 : k < 6
  · rw [decide_eq_true h6, Bool.true_and] at h
    refine .inr (.inr fun c hc => ?_)
    rw [hc] at h
    exact h
  · exact .inr (.inl (by omega))
theorem goD_step {s : L} {k : Nat} (h : goD s k = true) : k < 6 ∧ ∃ c, s[k]? = some c ∧ dig c = true := by
  unfold goD at h
  rw [Bool.and_eq_true, decide_eq_true_eq] at h
  cases hc : s[k]? with
  | none => rw [hc] at h; cases h.2
  | some c => rw [hc] at h; exact ⟨h.1, c, rfl, h.2⟩
/-- What is held of the digits so far. -/
def DgI (s : L) (k n : Nat) : Prop := k ≤ 6 ∧ k ≤ s.length ∧ (s.take k).all dig = true ∧ n = numTo 0 (s.take k)
theorem DgI.lt {s : L} {k n : Nat} (h : DgI s k n) : n ≤ 999999 := by
  obtain ⟨h1, _, h3, rfl⟩ := h
  exact num_lt6 _ (fun c hc => List.all_eq_true.1 h3 c hc) (by rw [List.length_take]; omega)
theorem DgI.step {s : L} {k n : Nat} (h : DgI s k n) {c : UInt8} (h6 : k < 6) (hc : s[k]? = some c) (hd : dig c = true) : DgI s (k + 1) (n * 10 + (c.toNat - 48)) := by
  obtain ⟨h1, h2, h3, rfl⟩ := h
  have hlt : k < s.length := (List.getElem?_eq_some_iff.1 hc).1
  refine ⟨by omega, by omega, ?_, (mnumTo_step hc).symm⟩
  rw [List.take_add_one, hc, List.all_append, h3]
  simp [hd]

set_option maxRecDepth 100000 in
set_option maxHeartbeats 8000000 in
theorem mbegins_any (s : ByteArray) (hs : s.size ≤ 1000000) (w : World) :
    Calls Tryz.prog 37 #[.string s] w fun e w' => e = .returned (.bool (begB (bl s))) ∧ w' = w := by
  obtain ⟨R, hR⟩ : ∃ R, R = begB (bl s) := ⟨_, rfl⟩
  rw [← hR]
  have HAL := hide hR
  clear hR
  go_enter Tryz.func37, Tryz.ntmps37
  go_wp2_with fail
  go_loopg [3, 4] 7 (fun g v3 v4 wx => wx = w ∧ ∃ k n : Nat, k + g = 7 ∧ v4 = .int .i64 (k : Int) ∧ v3 = .int .i64 (n : Int) ∧ Hid (DgI (bl s) k n))
  case atStart => exact ⟨rfl, 0, 0, by omega, rfl, rfl, hide ⟨by omega, by omega, rfl, rfl⟩⟩
  case round =>
    obtain ⟨rfl, k, n, hk, rfl, rfl, HI⟩ := hrel
    have hn := HI.out.lt
    have hks : k ≤ s.size := by have := HI.out.2.1; rw [bl_len] at this; exact this
    have hk6 : k ≤ 6 := HI.out.1
    go_upto_region 3 with fail
    go_cut [24] from 5 to 34 (fun v24 wx => v24 = .bool (goD (bl s) k) ∧ wx = wr)
    case first =>
      by_cases hlt : k < s.size
      · obtain ⟨c, hc⟩ := getK s k hlt
        have ip := fun w => idxK hc w
        have hb := c.toNat_lt
        have HG : Hid (goD (bl s) k = (decide (k < 6) && dig c)) := hide (by unfold goD; rw [hc])
        have HDG : Hid (dig c = decide (48 ≤ c.toNat ∧ c.toNat ≤ 57)) := hide rfl
        obtain ⟨m, hm⟩ : ∃ m, m = c.toNat := ⟨_, rfl⟩
        rw [← hm] at ip hb HDG
        clear hc hm
        by_cases h6 : k < 6
        · have d6 : decide ((k : Int) < 6) = true := decide_eq_true (by omega)
          have HG2 : Hid (goD (bl s) k = dig c) := hide (by rw [HG.out, decide_eq_true h6, Bool.true_and])
          rcases (show m < 48 ∨ 57 < m ∨ (48 ≤ m ∧ m ≤ 57) from by omega) with h | h | h
          · have HR : Hid (goD (bl s) k = false) := hide (by rw [HG2.out, HDG.out]; exact decide_eq_false (by omega))
            have l48 : decide ((48 : Int) ≤ (m : Int)) = false := decide_eq_false (by omega)
            clear HG HG2 HDG h hb
            go_wp2_with fail
            go_meet
            exact ⟨by rw [HR.out], rfl⟩
          · have HR : Hid (goD (bl s) k = false) := hide (by rw [HG2.out, HDG.out]; exact decide_eq_false (by omega))
            have l48 : decide ((48 : Int) ≤ (m : Int)) = true := decide_eq_true (by omega)
            have g57 : decide ((m : Int) ≤ 57) = false := decide_eq_false (by omega)
            clear HG HG2 HDG h hb
            go_wp2_with fail
            go_meet
            exact ⟨by rw [HR.out], rfl⟩
          · have HR : Hid (goD (bl s) k = true) := hide (by rw [HG2.out, HDG.out]; exact decide_eq_true (by omega))
            have l48 : decide ((48 : Int) ≤ (m : Int)) = true := decide_eq_true (by omega)
            have g57 : decide ((m : Int) ≤ 57) = true := decide_eq_true (by omega)
            clear HG HG2 HDG h hb
            go_wp2_with fail
            go_meet
            exact ⟨by rw [HR.out], rfl⟩
        · have d6 : decide ((k : Int) < 6) = false := decide_eq_false (by omega)
          have HR : Hid (goD (bl s) k = false) := hide (by rw [HG.out, decide_eq_false h6, Bool.false_and])
          clear HG HDG hb
          go_wp2_with fail
          go_meet
          exact ⟨by rw [HR.out], rfl⟩
      · have dl : decide ((k : Int) < (s.size : Int)) = false := decide_eq_false (by omega)
        have dl2 : decide (k < s.size) = false := decide_eq_false hlt
        have HR : Hid (goD (bl s) k = false) := hide (by
          unfold goD
          rw [List.getElem?_eq_none (by rw [bl_len]; omega), Bool.and_false])
        clear hlt
        go_wp2_with fail
        go_meet
        exact ⟨by rw [HR.out], rfl⟩
    case rest =>
    obtain ⟨rfl, rfl⟩ := hcut
    cases hgd : goD (bl s) k with
    | true =>
      obtain ⟨h6, c, hc, hdc⟩ := goD_step hgd
      have ip := fun w => idxK hc w
      have hb := (dig_iff c).1 hdc
      have HI2 := hide (HI.out.step h6 hc hdc)
      obtain ⟨d, hd⟩ : ∃ d : Nat, c.toNat = 48 + d := ⟨c.toNat - 48, by omega⟩
      have hd10 : d < 10 := by omega
      rw [hd] at ip HI2
      have hcast : ((48 + d : Nat) : Int) = 48 + (d : Int) := by omega
      rw [hcast] at ip
      have hnd : n * 10 + (48 + d - 48) = n * 10 + d := by omega
      rw [hnd] at HI2
      clear hcast hc hdc hb hd hgd hnd
      go_wp2_with fail
      go_roundg (gk - 1)
      case measure => omega
      case rel => exact ⟨rfl, k + 1, n * 10 + d, by omega, by first | rfl | simp, by first | rfl | (simp; done) | (simp; omega), HI2⟩
    | false =>
      have hkd := goD_exit HI.out.1 HI.out.2.1 HI.out.2.2.1 hgd
      have hkl : (kd (bl s)).length = k := by rw [hkd, List.length_take, bl_len]; omega
      have hnn : numTo 0 (kd (bl s)) = n := by rw [hkd]; exact HI.out.2.2.2.symm
      have HB : Hid (R = if k = 0 ∨ (1 < k ∧ (bl s)[0]? = some 48) then false else decide (k = s.size ∨ ((bl s)[k]? = some 58 ∧ s.size - k - 1 ≤ n))) := hide (by
        rw [HAL.out]
        unfold begB
        rw [hkl, hnn, bl_len])
      clear hkd hkl hnn HAL hgd
      by_cases h0 : k = 0
      · have HR : Hid (R = false) := hide (by rw [HB.out, if_pos (.inl h0)])
        subst h0
        clear HB
        go_wp2_with fail
        go_ret
        rw [HR.out]
        exact ⟨rfl, rfl⟩
      · have hk0 : ((k : Int) == 0) = false := by simp; omega
        obtain ⟨c, hc⟩ := getK s 0 (by omega)
        have ip0 : ∀ w, (Instr.index 9 (.string s) (.int .i64 0)).run Tryz.prog w = .ok (.int .u8 (c.toNat : Int)) w := fun w => idxK hc w
        by_cases h1 : 1 < k ∧ c = 48
        · have HR : Hid (R = false) := hide (by rw [HB.out, if_pos (.inr ⟨h1.1, by rw [hc, h1.2]⟩)])
          have d1 : decide ((1 : Int) < (k : Int)) = true := decide_eq_true (by omega)
          have e48 : ((c.toNat : Int) == 48) = true := by rw [h1.2]; rfl
          clear HB hc h1
          go_wp2_with fail
          go_ret
          rw [HR.out]
          exact ⟨rfl, rfl⟩
        · have HB2 : Hid (R = decide (k = s.size ∨ ((bl s)[k]? = some 58 ∧ s.size - k - 1 ≤ n))) := hide (by
            rw [HB.out, if_neg]
            rintro (h | ⟨h, h2⟩)
            · exact h0 h
            · rw [hc] at h2
              exact h1 ⟨h, Option.some.inj h2⟩)
          have HC48 : Hid (c = 48 → k ≤ 1) := hide (fun h => by
            rcases Nat.lt_or_ge 1 k with h2 | h2
            · exact absurd ⟨h2, h⟩ h1
            · exact h2)
          obtain ⟨B1, hB1⟩ : ∃ B1 : Bool, B1 = decide (1 < k) := ⟨_, rfl⟩
          have d1 : decide ((1 : Int) < (k : Int)) = B1 := by rw [hB1]; exact decide_eq_decide.2 (by omega)
          have e48 : B1 = true → ((c.toNat : Int) == 48) = false := fun hb => by
            rw [hB1, decide_eq_true_eq] at hb
            have : c ≠ 48 := fun e => by have := HC48.out e; omega
            simp only [beq_eq_false_iff_ne, ne_eq]
            intro e
            have h9 : c.toNat = 48 := by omega
            exact this (UInt8.toNat_inj.1 (by rw [h9]; rfl))
          clear HB hc h1 HC48 hB1
          cases B1 with
          | true =>
            have e48 := e48 rfl
            by_cases hks2 : k = s.size
            · have HR : Hid (R = true) := hide (by rw [HB2.out]; exact decide_eq_true (.inl hks2))
              have dk : ((k : Int) == (s.size : Int)) = true := by simp; omega
              clear hks2 HB2
              go_wp2_with fail
              go_ret
              rw [HR.out]
              exact ⟨rfl, rfl⟩
            · have dk : ((k : Int) == (s.size : Int)) = false := by simp; omega
              obtain ⟨c2, hc2⟩ := getK s k (by omega)
              have ip2 := fun w => idxK hc2 w
              by_cases h58 : c2 = 58
              · have e58 : ((c2.toNat : Int) == 58) = true := by rw [h58]; rfl
                by_cases hle : s.size - k - 1 ≤ n
                · have HR : Hid (R = true) := hide (by rw [HB2.out]; exact decide_eq_true (.inr ⟨by rw [hc2, h58], hle⟩))
                  have dle : decide ((s.size : Int) - (k : Int) - 1 ≤ (n : Int)) = true := decide_eq_true (by omega)
                  clear hc2 h58 hle HB2 hks2
                  go_wp2_with fail
                  go_ret
                  rw [HR.out]
                  exact ⟨rfl, rfl⟩
                · have HR : Hid (R = false) := hide (by rw [HB2.out]; exact decide_eq_false (by rintro (h | ⟨_, h⟩) <;> omega))
                  have dle : decide ((s.size : Int) - (k : Int) - 1 ≤ (n : Int)) = false := decide_eq_false (by omega)
                  clear hc2 h58 hle HB2 hks2
                  go_wp2_with fail
                  go_ret
                  rw [HR.out]
                  exact ⟨rfl, rfl⟩
              · have e58 : ((c2.toNat : Int) == 58) = false := by
                  simp only [beq_eq_false_iff_ne, ne_eq]
                  intro e
                  have h9 : c2.toNat = 58 := by omega
                  exact h58 (UInt8.toNat_inj.1 (by rw [h9]; rfl))
                have HR : Hid (R = false) := hide (by
                  rw [HB2.out]
                  refine decide_eq_false ?_
                  rintro (h | ⟨h, _⟩)
                  · exact hks2 h
                  · rw [hc2] at h
                    exact h58 (Option.some.inj h))
                clear hc2 h58 HB2 hks2
                go_wp2_with fail
                go_ret
                rw [HR.out]
                exact ⟨rfl, rfl⟩
          | false =>
            clear e48 ip0
            by_cases hks2 : k = s.size
            · have HR : Hid (R = true) := hide (by rw [HB2.out]; exact decide_eq_true (.inl hks2))
              have dk : ((k : Int) == (s.size : Int)) = true := by simp; omega
              clear hks2 HB2
              go_wp2_with fail
              go_ret
              rw [HR.out]
              exact ⟨rfl, rfl⟩
            · have dk : ((k : Int) == (s.size : Int)) = false := by simp; omega
              obtain ⟨c2, hc2⟩ := getK s k (by omega)
              have ip2 := fun w => idxK hc2 w
              by_cases h58 : c2 = 58
              · have e58 : ((c2.toNat : Int) == 58) = true := by rw [h58]; rfl
                by_cases hle : s.size - k - 1 ≤ n
                · have HR : Hid (R = true) := hide (by rw [HB2.out]; exact decide_eq_true (.inr ⟨by rw [hc2, h58], hle⟩))
                  have dle : decide ((s.size : Int) - (k : Int) - 1 ≤ (n : Int)) = true := decide_eq_true (by omega)
                  clear hc2 h58 hle HB2 hks2
                  go_wp2_with fail
                  go_ret
                  rw [HR.out]
                  exact ⟨rfl, rfl⟩
                · have HR : Hid (R = false) := hide (by rw [HB2.out]; exact decide_eq_false (by rintro (h | ⟨_, h⟩) <;> omega))
                  have dle : decide ((s.size : Int) - (k : Int) - 1 ≤ (n : Int)) = false := decide_eq_false (by omega)
                  clear hc2 h58 hle HB2 hks2
                  go_wp2_with fail
                  go_ret
                  rw [HR.out]
                  exact ⟨rfl, rfl⟩
              · have e58 : ((c2.toNat : Int) == 58) = false := by
                  simp only [beq_eq_false_iff_ne, ne_eq]
                  intro e
                  have h9 : c2.toNat = 58 := by omega
                  exact h58 (UInt8.toNat_inj.1 (by rw [h9]; rfl))
                have HR : Hid (R = false) := hide (by
                  rw [HB2.out]
                  refine decide_eq_false ?_
                  rintro (h | ⟨h, _⟩)
                  · exact hks2 h
                  · rw [hc2] at h
                    exact h58 (Option.some.inj h))
                clear hc2 h58 HB2 hks2
                go_wp2_with fail
                go_ret
                rw [HR.out]
                exact ⟨rfl, rfl⟩
end Go.Proofs.YtebcpmgooodmpaaGreatDoor

namespace Go.Proofs.YtebcpmgooodmpaaGreatDoor
open Go.RowKit
open Utf1
open Pol8 hiding text right Right
open Msg15

/-- What is held in the loop of fields. -/
def FdI (w wr : World) (s : L) (cur : ByteArray) (p : Option Addr) (n c : Nat) : Prop :=
  ∃ ps : List ByteArray, n = ps.length ∧ n + cur.size ≤ s.length ∧ wr.ownsRow w.heap.size 9 1 (.slice p n c) n (strV ps) ∧ s = flds (ps.map bl) ++ bl cur ∧ (∀ t ∈ ps.map bl, t.length ≤ 999999) ∧ Below w.heap.size w wr
/-- A list of texts, no longer than its room. -/
def StrCap (w : World) (v : Value) (ss : List ByteArray) : Prop := StrArg w v ss ∧ ∃ p n c, v = .slice p n c ∧ n ≤ c
theorem FdI.done {w wr : World} {s : L} {cur : ByteArray} {p : Option Addr} {n c : Nat} (h : FdI w wr s cur p n c) (hs : oneF (bl cur) = none) : ∃ ps : List ByteArray, StrCap wr (.slice p n c) ps ∧ Fl s (ps.map bl) (bl cur) ∧ Below w.heap.size w wr := by
  obtain ⟨ps, h1, _, h2, h3, h4, h5⟩ := h
  refine ⟨ps, ⟨own_arg (B := w.heap.size) (by rw [← h1]; exact h2), p, n, c, rfl, ?_⟩, ⟨h3, h4, hs⟩, h5⟩
  rcases h2.2 with ⟨he, hz⟩ | ⟨g, cp, cur, he, _, _, hle, _⟩
  · omega
  · injection he with _ _ e3
    omega
theorem infoStrM : (Tryz.prog.info? 9).map (fun i => (i.zero, i.size, i.bytes)) = some (some (.string ByteArray.empty), 1, 16) := by kernel_rfl

set_option maxRecDepth 100000 in
set_option maxHeartbeats 16000000 in
theorem mfields_any (s0 : ByteArray) (hs : s0.size ≤ 1000000) (w : World) :
    Calls Tryz.prog 36 #[.string s0] w fun e w' => (∃ (v : Value) (ps : List ByteArray) (left : ByteArray), e = .returned (.tuple #[v, .string left]) ∧ StrCap w' v ps ∧ Fl (bl s0) (ps.map bl) (bl left)) ∧ Below w.heap.size w w' := by
  obtain ⟨i0, hi, hz0, hz1, hz2⟩ := info_parts infoStrM
  have hsl : (bl s0).length ≤ 1000000 := by rw [bl_len]; exact hs
  have HSL := hide hsl
  go_enter Tryz.func36, Tryz.ntmps36
  go_wp2_with fail
  go_loopg [0, 4] s0.size (fun g v0 v4 wr => ∃ (cur : ByteArray) (n cp : Nat) (p : Option Addr), cur.size ≤ g ∧ v0 = .string cur ∧ v4 = .slice p n cp ∧ Hid (FdI w wr (bl s0) cur p n cp))
  case atStart => exact ⟨s0, 0, 0, none, Nat.le_refl _, rfl, rfl, hide ⟨[], rfl, by rw [bl_len]; omega, ⟨rfl, .inl ⟨rfl, rfl⟩⟩, rfl, by simp, Below.refl _ _⟩⟩
  case round =>
    obtain ⟨cur, n0, cp, p, hcg, rfl, rfl, HF⟩ := hrel
    have hnc : n0 + cur.size ≤ 1000000 := by
      obtain ⟨_, _, h, _⟩ := HF.out
      have := HSL.out
      omega
    by_cases hc0 : cur.size = 0
    · have HD := hide (HF.out.done (by
        have : bl cur = [] := List.eq_nil_of_length_eq_zero (by rw [bl_len]; exact hc0)
        rw [this]
        decide))
      have hce : Hid (cur = ⟨#[]⟩) := hide (ba_ext (List.eq_nil_of_length_eq_zero (by rw [bl_len]; exact hc0)))
      have hd : decide ((0 : Int) < (cur.size : Int)) = false := decide_eq_false (by omega)
      have hd2 : decide (0 < cur.size) = false := decide_eq_false (by omega)
      clear hc0
      go_wp2_with fail
      refine bodyPost_ret (results_tmp2 rfl _ _ _) rfl ?_
      obtain ⟨ps, h1, h2, h3⟩ := HD.out
      exact ⟨⟨_, ps, ⟨#[]⟩, rfl, h1, by rw [hce.out] at h2; exact h2⟩, h3⟩
    · have hd : decide ((0 : Int) < (cur.size : Int)) = true := decide_eq_true (by omega)
      have hd2 : decide (0 < cur.size) = true := decide_eq_true (by omega)
      have HC0 := hide hc0
      obtain ⟨G0, hG0⟩ : ∃ G0, G0 = gk := ⟨_, rfl⟩
      rw [← hG0] at hcg
      have HG0 := hide hG0
      obtain ⟨wo, hwo⟩ : ∃ wo, wo = wr := ⟨_, rfl⟩
      subst hwo
      clear hc0 hG0
      go_wp2_with fail
      go_loopg [5, 6] 7 (fun g v5 v6 wx => wx = wo ∧ ∃ k n : Nat, k + g = 7 ∧ v6 = .int .i64 (k : Int) ∧ v5 = .int .i64 (n : Int) ∧ Hid (DgI (bl cur) k n))
      case atStart => exact ⟨rfl, 0, 0, by omega, rfl, rfl, hide ⟨by omega, by omega, rfl, rfl⟩⟩
      case round =>
        obtain ⟨rfl, k, n, hk, rfl, rfl, HI⟩ := hrel
        have hn := HI.out.lt
        have hks : k ≤ cur.size := by have := HI.out.2.1; rw [bl_len] at this; exact this
        have hk6 : k ≤ 6 := HI.out.1
        go_upto_region 5 with fail
        go_cut [29] from 10 to 39 (fun v29 wx => v29 = .bool (goD (bl cur) k) ∧ wx = wr)
        case first =>
          by_cases hlt : k < cur.size
          · obtain ⟨c, hc⟩ := getK cur k hlt
            have ip := fun w => idxK hc w
            have hb := c.toNat_lt
            have HG : Hid (goD (bl cur) k = (decide (k < 6) && dig c)) := hide (by unfold goD; rw [hc])
            have HDG : Hid (dig c = decide (48 ≤ c.toNat ∧ c.toNat ≤ 57)) := hide rfl
            obtain ⟨m, hm⟩ : ∃ m, m = c.toNat := ⟨_, rfl⟩
            rw [← hm] at ip hb HDG
            clear hc hm
            by_cases h6 : k < 6
            · have d6 : decide ((k : Int) < 6) = true := decide_eq_true (by omega)
              have HG2 : Hid (goD (bl cur) k = dig c) := hide (by rw [HG.out, decide_eq_true h6, Bool.true_and])
              rcases (show m < 48 ∨ 57 < m ∨ (48 ≤ m ∧ m ≤ 57) from by omega) with h | h | h
              · have HR : Hid (goD (bl cur) k = false) := hide (by rw [HG2.out, HDG.out]; exact decide_eq_false (by omega))
                have l48 : decide ((48 : Int) ≤ (m : Int)) = false := decide_eq_false (by omega)
                clear HG HG2 HDG h hb
                go_wp2_with fail
                go_meet
                exact ⟨by rw [HR.out], rfl⟩
              · have HR : Hid (goD (bl cur) k = false) := hide (by rw [HG2.out, HDG.out]; exact decide_eq_false (by omega))
                have l48 : decide ((48 : Int) ≤ (m : Int)) = true := decide_eq_true (by omega)
                have g57 : decide ((m : Int) ≤ 57) = false := decide_eq_false (by omega)
                clear HG HG2 HDG h hb
                go_wp2_with fail
                go_meet
                exact ⟨by rw [HR.out], rfl⟩
              · have HR : Hid (goD (bl cur) k = true) := hide (by rw [HG2.out, HDG.out]; exact decide_eq_true (by omega))
                have l48 : decide ((48 : Int) ≤ (m : Int)) = true := decide_eq_true (by omega)
                have g57 : decide ((m : Int) ≤ 57) = true := decide_eq_true (by omega)
                clear HG HG2 HDG h hb
                go_wp2_with fail
                go_meet
                exact ⟨by rw [HR.out], rfl⟩
            · have d6 : decide ((k : Int) < 6) = false := decide_eq_false (by omega)
              have HR : Hid (goD (bl cur) k = false) := hide (by rw [HG.out, decide_eq_false h6, Bool.false_and])
              clear HG HDG hb
              go_wp2_with fail
              go_meet
              exact ⟨by rw [HR.out], rfl⟩
          · have dl : decide ((k : Int) < (cur.size : Int)) = false := decide_eq_false (by omega)
            have dl2 : decide (k < cur.size) = false := decide_eq_false hlt
            have HR : Hid (goD (bl cur) k = false) := hide (by
              unfold goD
              rw [List.getElem?_eq_none (by rw [bl_len]; omega), Bool.and_false])
            clear hlt
            go_wp2_with fail
            go_meet
            exact ⟨by rw [HR.out], rfl⟩
        case rest =>
        obtain ⟨rfl, rfl⟩ := hcut
        cases hgd : goD (bl cur) k with
        | true =>
          obtain ⟨h6, c, hc, hdc⟩ := goD_step hgd
          have ip := fun w => idxK hc w
          have hb := (dig_iff c).1 hdc
          have HI2 := hide (HI.out.step h6 hc hdc)
          obtain ⟨d, hd0⟩ : ∃ d : Nat, c.toNat = 48 + d := ⟨c.toNat - 48, by omega⟩
          have hd10 : d < 10 := by omega
          rw [hd0] at ip HI2
          have hcast : ((48 + d : Nat) : Int) = 48 + (d : Int) := by omega
          rw [hcast] at ip
          have hnd : n * 10 + (48 + d - 48) = n * 10 + d := by omega
          rw [hnd] at HI2
          clear hcast hc hdc hb hd0 hgd hnd
          go_wp2_with fail
          go_roundg (gk - 1)
          case measure => omega
          case rel => exact ⟨rfl, k + 1, n * 10 + d, by omega, by first | rfl | simp, by first | rfl | (simp; done) | (simp; omega), HI2⟩
        | false =>
          have hkd := goD_exit HI.out.1 HI.out.2.1 HI.out.2.2.1 hgd
          have hkl : (kd (bl cur)).length = k := by rw [hkd, List.length_take, bl_len]; omega
          have hnn : numTo 0 (kd (bl cur)) = n := by rw [hkd]; exact HI.out.2.2.2.symm
          have HB : Hid (oneF (bl cur) = if k = 0 ∨ (1 < k ∧ (bl cur)[0]? = some 48) ∨ cur.size ≤ k + 1 + n ∨ (bl cur)[k]? ≠ some 58 ∨ (bl cur)[k + 1 + n]? ≠ some 44 then none else some (((bl cur).drop (k + 1)).take n, (bl cur).drop (k + 2 + n))) := hide (by
            unfold oneF
            rw [hkl, hnn, bl_len])
          clear hkd hkl hnn hgd HI
          obtain ⟨wd, hwd⟩ : ∃ wd, wd = wc := ⟨_, rfl⟩
          subst hwd
          go_upto_region 8 with fail
          go_cut [74] from 7 to 93 (fun v74 wx => v74 = .bool (oneF (bl cur)).isNone ∧ wx = wd)
          case first =>
            by_cases h0 : k = 0
            · have HR : Hid ((oneF (bl cur)).isNone = true) := hide (by rw [HB.out, if_pos (.inl h0)]; rfl)
              subst h0
              clear HB
              go_wp2_with fail
              go_meet
              exact ⟨by rw [HR.out], rfl⟩
            · have hk0 : ((k : Int) == 0) = false := by simp; omega
              obtain ⟨c, hc⟩ := getK cur 0 (by omega)
              have ip0 : ∀ w, (Instr.index 9 (.string cur) (.int .i64 0)).run Tryz.prog w = .ok (.int .u8 (c.toNat : Int)) w := fun w => idxK hc w
              by_cases h1 : 1 < k ∧ c = 48
              · have HR : Hid ((oneF (bl cur)).isNone = true) := hide (by rw [HB.out, if_pos (.inr (.inl ⟨h1.1, by rw [hc, h1.2]⟩))]; rfl)
                have d1 : decide ((1 : Int) < (k : Int)) = true := decide_eq_true (by omega)
                have e48 : ((c.toNat : Int) == 48) = true := by rw [h1.2]; rfl
                clear HB hc h1
                go_wp2_with fail
                go_meet
                exact ⟨by rw [HR.out], rfl⟩
              · have HB2 : Hid (oneF (bl cur) = if cur.size ≤ k + 1 + n ∨ (bl cur)[k]? ≠ some 58 ∨ (bl cur)[k + 1 + n]? ≠ some 44 then none else some (((bl cur).drop (k + 1)).take n, (bl cur).drop (k + 2 + n))) := hide (by
                  rw [HB.out]
                  by_cases hz : cur.size ≤ k + 1 + n ∨ (bl cur)[k]? ≠ some 58 ∨ (bl cur)[k + 1 + n]? ≠ some 44
                  · rw [if_pos (.inr (.inr hz)), if_pos hz]
                  · rw [if_neg, if_neg hz]
                    rintro (h | ⟨h, h2⟩ | h)
                    · exact h0 h
                    · rw [hc] at h2
                      exact h1 ⟨h, Option.some.inj h2⟩
                    · exact hz h)
                have HC48 : Hid (c = 48 → k ≤ 1) := hide (fun h => by
                  rcases Nat.lt_or_ge 1 k with h2 | h2
                  · exact absurd ⟨h2, h⟩ h1
                  · exact h2)
                obtain ⟨B1, hB1⟩ : ∃ B1 : Bool, B1 = decide (1 < k) := ⟨_, rfl⟩
                have d1 : decide ((1 : Int) < (k : Int)) = B1 := by rw [hB1]; exact decide_eq_decide.2 (by omega)
                have e48 : B1 = true → ((c.toNat : Int) == 48) = false := fun hb => by
                  rw [hB1, decide_eq_true_eq] at hb
                  have : c ≠ 48 := fun e => by have := HC48.out e; omega
                  simp only [beq_eq_false_iff_ne, ne_eq]
                  intro e
                  have h9 : c.toNat = 48 := by omega
                  exact this (UInt8.toNat_inj.1 (by rw [h9]; rfl))
                clear HB hc h1 HC48 hB1
                obtain ⟨K1, hK1⟩ : ∃ K1 : Nat, K1 = k + 1 + n := ⟨_, rfl⟩
                rw [← hK1] at HB2
                have ek : (k : Int) + 1 + (n : Int) = (K1 : Int) := by omega
                cases B1 with
                | true =>
                  have e48 := e48 rfl
                  by_cases hz : cur.size ≤ K1
                  · have HR : Hid ((oneF (bl cur)).isNone = true) := hide (by rw [HB2.out, if_pos (.inl hz)]; rfl)
                    have dz : decide ((cur.size : Int) ≤ (K1 : Int)) = true := decide_eq_true (by omega)
                    have dz2 : decide (cur.size ≤ K1) = true := decide_eq_true hz
                    clear hz HB2 hK1
                    go_wp2_with fail
                    go_meet
                    exact ⟨by rw [HR.out], rfl⟩
                  · have dz : decide ((cur.size : Int) ≤ (K1 : Int)) = false := decide_eq_false (by omega)
                    have dz2 : decide (cur.size ≤ K1) = false := decide_eq_false hz
                    obtain ⟨c2, hc2⟩ := getK cur k (by omega)
                    obtain ⟨c3, hc3⟩ := getK cur K1 (by omega)
                    have ip2 := fun w => idxK hc2 w
                    have ip3 := fun w => idxK hc3 w
                    by_cases h58 : c2 = 58
                    · have e58 : ((c2.toNat : Int) != 58) = false := by rw [h58]; rfl
                      by_cases h44 : c3 = 44
                      · have e44 : ((c3.toNat : Int) != 44) = false := by rw [h44]; rfl
                        have HR : Hid ((oneF (bl cur)).isNone = false) := hide (by
                          rw [HB2.out, if_neg]
                          · rfl
                          · rintro (h | h | h)
                            · exact hz h
                            · exact h (by rw [hc2, h58])
                            · exact h (by rw [hc3, h44]))
                        clear hc2 hc3 h58 h44 hz HB2 hK1
                        go_wp2_with fail
                        go_meet
                        exact ⟨by rw [HR.out], rfl⟩
                      · have e44 : ((c3.toNat : Int) != 44) = true := by
                          simp only [bne_iff_ne, ne_eq]
                          intro e
                          have h9 : c3.toNat = 44 := by omega
                          exact h44 (UInt8.toNat_inj.1 (by rw [h9]; rfl))
                        have HR : Hid ((oneF (bl cur)).isNone = true) := hide (by
                          rw [HB2.out, if_pos (.inr (.inr (by rw [hc3]; intro e; exact h44 (Option.some.inj e))))]
                          rfl)
                        clear hc2 hc3 h58 h44 hz HB2 hK1
                        go_wp2_with fail
                        go_meet
                        exact ⟨by rw [HR.out], rfl⟩
                    · have e58 : ((c2.toNat : Int) != 58) = true := by
                        simp only [bne_iff_ne, ne_eq]
                        intro e
                        have h9 : c2.toNat = 58 := by omega
                        exact h58 (UInt8.toNat_inj.1 (by rw [h9]; rfl))
                      have HR : Hid ((oneF (bl cur)).isNone = true) := hide (by
                        rw [HB2.out, if_pos (.inr (.inl (by rw [hc2]; intro e; exact h58 (Option.some.inj e))))]
                        rfl)
                      clear hc2 hc3 h58 hz HB2 hK1
                      go_wp2_with fail
                      go_meet
                      exact ⟨by rw [HR.out], rfl⟩
                | false =>
                  clear e48 ip0
                  by_cases hz : cur.size ≤ K1
                  · have HR : Hid ((oneF (bl cur)).isNone = true) := hide (by rw [HB2.out, if_pos (.inl hz)]; rfl)
                    have dz : decide ((cur.size : Int) ≤ (K1 : Int)) = true := decide_eq_true (by omega)
                    have dz2 : decide (cur.size ≤ K1) = true := decide_eq_true hz
                    clear hz HB2 hK1
                    go_wp2_with fail
                    go_meet
                    exact ⟨by rw [HR.out], rfl⟩
                  · have dz : decide ((cur.size : Int) ≤ (K1 : Int)) = false := decide_eq_false (by omega)
                    have dz2 : decide (cur.size ≤ K1) = false := decide_eq_false hz
                    obtain ⟨c2, hc2⟩ := getK cur k (by omega)
                    obtain ⟨c3, hc3⟩ := getK cur K1 (by omega)
                    have ip2 := fun w => idxK hc2 w
                    have ip3 := fun w => idxK hc3 w
                    by_cases h58 : c2 = 58
                    · have e58 : ((c2.toNat : Int) != 58) = false := by rw [h58]; rfl
                      by_cases h44 : c3 = 44
                      · have e44 : ((c3.toNat : Int) != 44) = false := by rw [h44]; rfl
                        have HR : Hid ((oneF (bl cur)).isNone = false) := hide (by
                          rw [HB2.out, if_neg]
                          · rfl
                          · rintro (h | h | h)
                            · exact hz h
                            · exact h (by rw [hc2, h58])
                            · exact h (by rw [hc3, h44]))
                        clear hc2 hc3 h58 h44 hz HB2 hK1
                        go_wp2_with fail
                        go_meet
                        exact ⟨by rw [HR.out], rfl⟩
                      · have e44 : ((c3.toNat : Int) != 44) = true := by
                          simp only [bne_iff_ne, ne_eq]
                          intro e
                          have h9 : c3.toNat = 44 := by omega
                          exact h44 (UInt8.toNat_inj.1 (by rw [h9]; rfl))
                        have HR : Hid ((oneF (bl cur)).isNone = true) := hide (by
                          rw [HB2.out, if_pos (.inr (.inr (by rw [hc3]; intro e; exact h44 (Option.some.inj e))))]
                          rfl)
                        clear hc2 hc3 h58 h44 hz HB2 hK1
                        go_wp2_with fail
                        go_meet
                        exact ⟨by rw [HR.out], rfl⟩
                    · have e58 : ((c2.toNat : Int) != 58) = true := by
                        simp only [bne_iff_ne, ne_eq]
                        intro e
                        have h9 : c2.toNat = 58 := by omega
                        exact h58 (UInt8.toNat_inj.1 (by rw [h9]; rfl))
                      have HR : Hid ((oneF (bl cur)).isNone = true) := hide (by
                        rw [HB2.out, if_pos (.inr (.inl (by rw [hc2]; intro e; exact h58 (Option.some.inj e))))]
                        rfl)
                      clear hc2 hc3 h58 hz HB2 hK1
                      go_wp2_with fail
                      go_meet
                      exact ⟨by rw [HR.out], rfl⟩
          case rest =>
          obtain ⟨rfl, rfl⟩ := hcut
          cases hon : oneF (bl cur) with
          | none =>
            have HD := hide (HF.out.done hon)
            clear hon HB
            go_wp2_with fail
            refine bodyPost_ret (results_tmp2 rfl _ _ _) rfl ?_
            obtain ⟨ps, h1, h2, h3⟩ := HD.out
            exact ⟨⟨_, ps, cur, rfl, h1, h2⟩, h3⟩
          | some tr =>
            obtain ⟨t, r⟩ := tr
            obtain ⟨hcur, htl⟩ := one_is hon
            rw [hon] at HB
            have hbb := HB.out
            split at hbb
            · cases hbb
            · rename_i hneg
              injection hbb with hbb
              injection hbb with ht hr
              obtain ⟨A1, hA1⟩ : ∃ A1 : Nat, A1 = k + 1 := ⟨_, rfl⟩
              obtain ⟨K1, hK1⟩ : ∃ K1 : Nat, K1 = A1 + n := ⟨_, rfl⟩
              obtain ⟨A2, hA2⟩ : ∃ A2 : Nat, A2 = k + 2 := ⟨_, rfl⟩
              obtain ⟨K2, hK2⟩ : ∃ K2 : Nat, K2 = A2 + n := ⟨_, rfl⟩
              have hbig : K1 < cur.size := by
                rcases Nat.lt_or_ge (k + 1 + n) cur.size with h | h
                · omega
                · exact absurd (.inr (.inr (.inl h))) hneg
              have hT : bl (cur.extract A1 K1) = t := by rw [extract_bl, ht, hA1, hK1, hA1, Nat.add_sub_cancel_left]
              have hR : bl (cur.extract K2 cur.size) = r := by
                rw [extract_bl, hr, hK2, hA2, List.take_of_length_le (by rw [List.length_drop, bl_len]; exact Nat.le_refl _)]
              have e1 : (k : Int) + 1 = (A1 : Int) := by omega
              have e2 : (A1 : Int) + (n : Int) = (K1 : Int) := by omega
              have e3 : (k : Int) + 2 = (A2 : Int) := by omega
              have e4 : (A2 : Int) + (n : Int) = (K2 : Int) := by omega
              have j1 : (A1 : Int) ≤ (K1 : Int) := by omega
              have j2 : (K1 : Int) ≤ (cur.size : Int) := by omega
              have j3 : (K2 : Int) ≤ (cur.size : Int) := by omega
              have HCU := hide (And.intro hcur (And.intro htl (And.intro hT hR)))
              have HKK : Hid (A1 = k + 1 ∧ K1 = A1 + n ∧ K2 = k + 2 + n ∧ K1 < cur.size) := hide ⟨hA1, hK1, by omega, hbig⟩
              obtain ⟨ps, q1, q2, q3, q4, q5, q6⟩ := HF.out
              have hn0 : n0 ≤ 1000000 := by omega
              have HOW : Hid ((wc.alloc (.cells #[.string (cur.extract A1 K1)] 9)).ownsRow w.heap.size 9 1 (.slice p n0 cp) n0 (strV ps)) := hide (q3.alloc _)
              have HSZ : Hid (w.heap.size ≤ (wc.alloc (.cells #[.string (cur.extract A1 K1)] 9)).heap.size) := hide (by have := q6.size; simp; omega)
              have HQ := hide (And.intro q1 (And.intro q2 (And.intro q4 (And.intro q5 q6))))
              clear q1 q2 q3 q4 q5 q6 ht hr hneg HB hon hcur htl hT hR hA1 hA2 hK1 hK2 HF
              go_wp2_with (at_builtin; refine wpList_append_own _ rfl _ _ 22 rfl w.heap.size 9 i0 _ 1 16 Tryz.underlying22 hi hz0 hz1 hz2 rfl (by decide) (.slice p n0 cp) n0 (strV ps) rfl HOW.out ⟨wc.heap.size, 0, none⟩ 1 1 [.string (cur.extract A1 K1)] rfl rfl (one_new _ _ _) (by simp [Value.oneCell']) (by unfold maxLen; omega) (by omega) HSZ.out ?_)
              intro u' w3 hown3 hg3 _
              obtain ⟨p', c', rfl, -⟩ := own_shape hown3
              have HR3 : Hid (FdI w w3 (bl s0) (cur.extract K2 cur.size) p' (n0 + 1) c') := hide (by
                have hsz : (cur.extract K2 cur.size).size + K2 ≤ cur.size := by
                  rw [← bl_len, extract_bl, List.length_take, List.length_drop, bl_len]
                  have := HKK.out
                  omega
                refine ⟨ps ++ [cur.extract A1 K1], by rw [List.length_append, ← HQ.out.1]; rfl, ?_, by rw [strV_app]; exact hown3, ?_, ?_, (HQ.out.2.2.2.2.alloc HQ.out.2.2.2.2.size _).grown hg3 HSZ.out (fun kk hkk => (HOW.out.lt kk hkk).1)⟩
                · have := HQ.out.2.1
                  have := HKK.out
                  omega
                · rw [List.map_append, flds_app]
                  show _ = flds (ps.map bl) ++ flds [bl (cur.extract A1 K1)] ++ _
                  rw [HCU.out.2.2.1, HCU.out.2.2.2]
                  show _ = flds (ps.map bl) ++ (fld t ++ []) ++ r
                  rw [List.append_nil, List.append_assoc, ← HCU.out.1]
                  exact HQ.out.2.2.1
                · intro x hx
                  rw [List.map_append] at hx
                  rcases List.mem_append.1 hx with hx | hx
                  · exact HQ.out.2.2.2.1 x hx
                  · have : x = bl (cur.extract A1 K1) := by simpa using hx
                    rw [this, HCU.out.2.2.1]
                    exact HCU.out.2.1)
              have HSM : Hid ((cur.extract K2 cur.size).size + K2 ≤ cur.size) := hide (by
                rw [← bl_len, extract_bl, List.length_take, List.length_drop, bl_len]
                have := HKK.out
                omega)
              clear hown3 hg3 HOW HSZ
              go_wp2_with fail
              go_roundg (cur.extract K2 cur.size).size
              case measure => have := HSM.out; have := HKK.out; have := HG0.out; omega
              case rel => exact ⟨_, n0 + 1, c', p', Nat.le_refl _, rfl, rfl, HR3⟩
end Go.Proofs.YtebcpmgooodmpaaGreatDoor
