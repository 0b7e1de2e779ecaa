/-
  The law TokWithin, walked: it answers true at every name and text.
-/
import Derived.Test.YtjmgcdeinjamiabDoorB8
import Derived.Test.YtjmgcdeinjamiabDoorM5
namespace Go.Proofs.YtjmgcdeinjamiabDoor
open Go.RowKit
open Utf1

theorem bl_cat (a b : ByteArray) : bl (a ++ b) = bl a ++ bl b := by
  show (a ++ b).data.toList = _
  rw [ByteArray.data_append, Array.toList_append]
theorem ne_byte {c : UInt8} {k : Nat} (hk : k < 256) : ((c.toNat : Int) == (k : Int)) = decide (c = UInt8.ofNat k) := by
  by_cases h : c = UInt8.ofNat k
  · rw [decide_eq_true h, h, toNat_ofNat hk]
    simp
  · rw [decide_eq_false h]
    refine beq_eq_false_iff_ne.2 fun e => h ?_
    have : c.toNat = k := by omega
    rw [← this]
    simp
theorem raw_short {n : List UInt8} {b : Bool} (h : rawOf n = some b) : n.length ≤ 9 := by
  have k : ∀ p ∈ raws, p.1.length ≤ 9 := by decide
  exact k _ (lookR_mem _ _ _ h)

set_option maxHeartbeats 8000000 in
theorem lawWithin (name s : ByteArray) (w : World) (hg : Glob w) (hgm : GlobM w) : Calls Tryd.prog 4 #[.string name, .string s] w fun e w' => e = .returned (.bool true) ∧ Below w.heap.size w w' := by
  have HG := hide (And.intro hg hgm)
  clear hg hgm
  have hr := fun w => raw_any name w
  rcases hraw : rawOf (bl name) with _ | b
  · rw [hraw] at hr
    have HR := hide hr
    clear hr hraw
    go_enter Tryd.func4, Tryd.ntmps4
    go_wp2_with fail
    refine (awake_any _ HG.out.1 HG.out.2).mono ?_
    rintro e w1 ⟨rfl, hb1⟩
    have HB1 := hide hb1
    clear hb1
    go_wp2_with fail
    refine (HR.out _).mono ?_
    rintro e w2 ⟨rfl, rfl⟩
    go_wp2_with fail
    go_ret
    exact ⟨rfl, HB1.out⟩
  rw [hraw] at hr
  have HR := hide hr
  clear hr
  have q0 := eq_lit name [112, 108, 97, 105, 110, 116, 101, 120, 116]
  by_cases hp : bl name = [112, 108, 97, 105, 110, 116, 101, 120, 116]
  · rw [decide_eq_true hp] at q0
    clear hp hraw
    go_enter Tryd.func4, Tryd.ntmps4
    go_wp2_with fail
    refine (awake_any _ HG.out.1 HG.out.2).mono ?_
    rintro e w1 ⟨rfl, hb1⟩
    have HB1 := hide hb1
    clear hb1
    go_wp2_with fail
    refine (HR.out _).mono ?_
    rintro e w2 ⟨rfl, rfl⟩
    go_wp2_with fail
    go_ret
    exact ⟨rfl, HB1.out⟩
  rw [decide_eq_false hp] at q0
  by_cases h1 : s.size < 1
  · clear hp hraw
    go_enter Tryd.func4, Tryd.ntmps4
    go_wp2_with fail
    refine (awake_any _ HG.out.1 HG.out.2).mono ?_
    rintro e w1 ⟨rfl, hb1⟩
    have HB1 := hide hb1
    clear hb1
    go_wp2_with fail
    refine (HR.out _).mono ?_
    rintro e w2 ⟨rfl, rfl⟩
    go_wp2_with fail
    go_ret
    exact ⟨rfl, HB1.out⟩
  have h1 : 1 ≤ s.size := by omega
  by_cases h2 : 1000 < s.size
  · clear hp hraw
    go_enter Tryd.func4, Tryd.ntmps4
    go_wp2_with fail
    refine (awake_any _ HG.out.1 HG.out.2).mono ?_
    rintro e w1 ⟨rfl, hb1⟩
    have HB1 := hide hb1
    clear hb1
    go_wp2_with fail
    refine (HR.out _).mono ?_
    rintro e w2 ⟨rfl, rfl⟩
    go_wp2_with fail
    go_ret
    exact ⟨rfl, HB1.out⟩
  have h2 : s.size ≤ 1000 := by omega
  have hn : name.size ≤ 9 := by
    have := raw_short hraw
    rwa [bl_len] at this
  have HW := hide (And.intro hraw hp)
  clear hraw hp
  go_enter Tryd.func4, Tryd.ntmps4
  go_wp2_with fail
  refine (awake_any _ HG.out.1 HG.out.2).mono ?_
  rintro e w1 ⟨rfl, hb1⟩
  have HB1 := hide hb1
  clear hb1
  go_wp2_with fail
  refine (HR.out _).mono ?_
  rintro e w2 ⟨rfl, rfl⟩
  clear HR
  go_wp2_with fail
  go_loopg [8] s.size (fun g v wr => ∃ p : Nat, p + g = s.size ∧ v = .int .i64 (p : Int) ∧ wr = w2 ∧ Hid (∀ c ∈ (bl s).take p, c ≠ 60))
  case atStart => exact ⟨0, by omega, rfl, rfl, hide (by simp)⟩
  case round =>
    obtain ⟨p, hpg, rfl, rfl, HS⟩ := hrel
    by_cases hlt : p < s.size
    · have hge : (bl s)[p]? = some ((bl s)[p]'(by rw [bl_len]; exact hlt)) := List.getElem?_eq_getElem _
      generalize (bl s)[p]'(by rw [bl_len]; exact hlt) = c at hge
      have i00 := fun w => idxK hge w
      have z0 := u8b c 60 (by decide)
      obtain ⟨z, hz⟩ : ∃ z : Int, z = (c.toNat : Int) := ⟨_, rfl⟩
      rw [← hz] at z0
      have i0 : ∀ w, (Instr.index 9 (.string s) (.int .i64 (p : Int))).run Tryd.prog w = .ok (.int .u8 z) w := by
        rw [hz]
        exact i00
      clear hz i00
      have z0 : (z == 60) = decide (c = 60) := z0
      by_cases hc : c = 60
      · rw [decide_eq_true hc] at z0
        clear hge hc HS
        go_wp2_with fail
        go_ret
        exact ⟨rfl, HB1.out⟩
      · rw [decide_eq_false hc] at z0
        have HN : Hid (∀ c ∈ (bl s).take (p + 1), c ≠ 60) := hide (by
          intro x hx
          rw [List.take_add_one, hge] at hx
          rcases List.mem_append.1 hx with hx | hx
          · exact HS.out x hx
          · have : x = c := by simpa using hx
            rw [this]
            exact hc)
        clear hge hc HS
        go_wp2_with fail
        go_roundg (gk - 1)
        case measure => omega
        case rel => exact ⟨p + 1, by omega, by first | rfl | simp, rfl, HN⟩
    · have hno : ∀ c ∈ bl s, c ≠ 60 := by
        have := HS.out
        rw [List.take_of_length_le (by rw [bl_len]; omega)] at this
        exact this
      have hne : bl s ≠ [] := by
        intro e
        have := congrArg List.length e
        rw [bl_len, List.length_nil] at this
        omega
      obtain ⟨X, hX⟩ : ∃ X : ByteArray, X = ({ data := #[60] } : ByteArray) ++ name ++ { data := #[62] } ++ s ++ { data := #[60, 47] } ++ name ++ { data := #[62, 60, 98, 62] } := ⟨_, rfl⟩
      have hbx : bl X = 60 :: (bl name ++ 62 :: (bl s ++ 60 :: 47 :: (bl name ++ 62 :: [60, 98, 62]))) := by
        rw [hX]
        simp only [bl_cat]
        show ((((([60] ++ bl name) ++ [62]) ++ bl s) ++ [60, 47]) ++ bl name) ++ [62, 60, 98, 62] = _
        simp only [List.append_assoc, List.cons_append, List.nil_append]
      have hxs : X.size ≤ 4294967280 := by
        rw [← bl_len, hbx]
        simp only [List.length_cons, List.length_append, bl_len, List.length_nil]
        omega
      have hq := toks_within _ _ _ HW.out.1 HW.out.2 hne hno
      rw [← hbx] at hq
      have ht := fun w hg hgm => tokens_any X w hxs hg hgm
      rw [hq] at ht
      subst hX
      have HTT := hide ht
      clear HS hno ht hbx hxs hne hq
      cases b with
      | false =>
        go_wp2_with fail
        refine (HTT.out _ (HG.out.1.below HB1.out) (HG.out.2.below HB1.out)).mono ?_
        rintro e w3 ⟨v, l, rfl, hl, htk, hb3⟩
        obtain ⟨x, y, z, u, rfl⟩ := four_of hl
        obtain ⟨g, cap, rfl, -⟩ := toks_slice htk (by simp)
        have c5 : w3.cell? ⟨g, 5, none⟩ = some (.int .i64 1) := tok_at htk 1 _ rfl 0 (by decide)
        have c9 : w3.cell? ⟨g, 9, none⟩ = some (.string ⟨(bl s).toArray⟩) := tok_at htk 1 _ rfl 4 (by decide)
        have c10 : w3.cell? ⟨g, 10, none⟩ = some (.int .i64 3) := tok_at htk 2 _ rfl 0 (by decide)
        have c11 : w3.cell? ⟨g, 11, none⟩ = some (.string ⟨(bl name).toArray⟩) := tok_at htk 2 _ rfl 1 (by decide)
        have c16 : w3.cell? ⟨g, 16, none⟩ = some (.string ⟨#[98]⟩) := tok_at htk 3 _ rfl 1 (by decide)
        rw [bl_eta] at c9 c11
        have HB3 := hide (bel2 HB1.out hb3)
        clear hl htk hb3 HTT
        go_wp2_with fail
        go_ret
        exact ⟨rfl, HB3.out⟩
      | true =>
        have HRS := hide (fun w hg => resolve_any s (by omega) w hg)
        obtain ⟨RR, hRR⟩ : ∃ R : ByteArray, R = ⟨(res (bl s)).toArray⟩ := ⟨_, rfl⟩
        rw [← hRR] at HRS
        have HRR := hide hRR
        clear hRR
        go_wp2_with fail
        refine (HRS.out _ (HG.out.1.below HB1.out)).mono ?_
        rintro e w3 ⟨rfl, hb3⟩
        have HB3 := hide (bel2 HB1.out hb3)
        clear hb3 HRS
        go_wp2_with fail
        refine (HTT.out _ (HG.out.1.below HB3.out) (HG.out.2.below HB3.out)).mono ?_
        rintro e w4 ⟨v, l, rfl, hl, htk, hb4⟩
        obtain ⟨x, y, z, u, rfl⟩ := four_of hl
        obtain ⟨g, cap, rfl, -⟩ := toks_slice htk (by simp)
        have c5 : w4.cell? ⟨g, 5, none⟩ = some (.int .i64 1) := tok_at htk 1 _ rfl 0 (by decide)
        have c9 : w4.cell? ⟨g, 9, none⟩ = some (.string RR) := by
          rw [HRR.out]
          exact tok_at htk 1 _ rfl 4 (by decide)
        have c10 : w4.cell? ⟨g, 10, none⟩ = some (.int .i64 3) := tok_at htk 2 _ rfl 0 (by decide)
        have c11 : w4.cell? ⟨g, 11, none⟩ = some (.string ⟨(bl name).toArray⟩) := tok_at htk 2 _ rfl 1 (by decide)
        have c16 : w4.cell? ⟨g, 16, none⟩ = some (.string ⟨#[98]⟩) := tok_at htk 3 _ rfl 1 (by decide)
        rw [bl_eta] at c11
        have HB4 := hide (bel2 HB3.out hb4)
        clear hl htk hb4 HTT
        go_wp2_with fail
        go_ret
        exact ⟨rfl, HB4.out⟩
end Go.Proofs.YtjmgcdeinjamiabDoor
