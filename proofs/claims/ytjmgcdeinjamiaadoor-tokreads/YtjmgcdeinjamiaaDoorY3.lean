/-
  The document's kind: what begins at a place.
-/
import Derived.Test.YtjmgcdeinjamiaaDoorY2
namespace Go.Proofs.YtjmgcdeinjamiaaDoor
open Go.RowKit
open Utf1

/-- What kind answers at the front of a text. -/
def KD (l : List UInt8) (k : Nat) : Prop := (k = 0 ∧ beg l = 0) ∨ (k = 1 ∧ beg l = 1) ∨ (k = 2 ∧ beg l = 2 ∧ ∃ r, l = 60 :: 47 :: 62 :: r) ∨ (k = 3 ∧ beg l = 2) ∨ (k = 4 ∧ beg l = 3 ∧ l.getD 1 0 ≠ 47) ∨ (k = 5 ∧ beg l = 3 ∧ l.getD 1 0 = 47)
def KRet (l : List UInt8) (w : World) (e : Ending) (w' : World) : Prop := ∃ k : Nat, e = .returned (.int .i64 (k : Int)) ∧ w' = w ∧ KD l k
theorem beg1_cons (c : UInt8) (u : List UInt8) : beg (60 :: c :: u) = if [33, 45, 45].isPrefixOf (c :: u) then 1 else if c = 33 ∨ c = 63 then 2 else if isLet c then 3 else if c ≠ 47 then 0 else beg2 u := by
  rw [beg_lt]
  rfl
theorem pre4 (c : UInt8) (u : List UInt8) : [60, 33, 45, 45].isPrefixOf (60 :: c :: u) = [33, 45, 45].isPrefixOf (c :: u) := by simp [List.isPrefixOf]
theorem drop_at {s : ByteArray} {p k : Nat} {c : UInt8} (h : ((bl s).drop p)[k]? = some c) : (bl s)[p + k]? = some c := by
  rwa [List.getElem?_drop] at h
theorem beqK (c : UInt8) (n : Nat) (hn : n < 256) : (((c.toNat : Int)) == (n : Int)) = decide (c = UInt8.ofNat n) := u8b c n hn
theorem bneK (c : UInt8) (n : Nat) (hn : n < 256) : (((c.toNat : Int)) != (n : Int)) = !decide (c = UInt8.ofNat n) := by
  show (!(((c.toNat : Int)) == (n : Int))) = _
  rw [u8b c n hn]

set_option maxHeartbeats 8000000 in
theorem kind_any (s : ByteArray) (p : Nat) (hp : p < s.size) (hs : s.size ≤ 100000) (w : World) :
    Calls Tryd.prog 25 #[.string s, .int .i64 (p : Int)] w fun e w' => KRet ((bl s).drop p) w e w' := by
  have hlen : ((bl s).drop p).length = s.size - p := by rw [List.length_drop, bl_len]
  have hbg := rbegins_any s p ⟨#[60, 33, 45, 45]⟩ (by omega) hs (by decide)
  have hdr := fun k c => @drop_at s p k c
  generalize (bl s).drop p = l at hlen hbg hdr
  match l, hlen, hbg, hdr with
  | [], hlen, hbg, hdr => simp at hlen; omega
  | c0 :: t, hlen, hbg, hdr =>
    have i0 := fun w => idxK (hdr 0 c0 rfl) w
    have i0 : ∀ w, (Instr.index 9 (.string s) (.int .i64 (p : Int))).run Tryd.prog w = .ok (.int .u8 (c0.toNat : Int)) w := i0
    have n0 : ((c0.toNat : Int) != 60) = !decide (c0 = 60) := bneK c0 60 (by decide)
    obtain ⟨z0, hz0⟩ : ∃ z : Int, z = (c0.toNat : Int) := ⟨_, rfl⟩
    rw [← hz0] at i0 n0
    clear hz0
    by_cases h60 : c0 = 60
    case neg =>
      have KD0 : KD (c0 :: t) 0 := .inl ⟨rfl, beg_ne t h60⟩
      rw [decide_eq_false h60] at n0
      have n0 : (z0 != 60) = true := n0
      have KD0 := hide KD0
      clear hlen hbg hdr h60
      go_enter Tryd.func25, Tryd.ntmps25
      go_wp2_with fail
      go_ret
      exact ⟨_, rfl, rfl, KD0.out⟩
    subst h60
    have n0 : (z0 != 60) = false := n0
    match t, hlen, hbg, hdr with
    | [], hlen, hbg, hdr =>
      have KD0 := hide (show KD [60] 0 from .inl ⟨rfl, rfl⟩)
      have hl1 : p + 1 = s.size := by simp at hlen; omega
      have hl : ((p : Int) + 1 == (s.size : Int)) = true := beq_iff_eq.2 (by omega)
      clear hlen hbg hdr hl1
      go_enter Tryd.func25, Tryd.ntmps25
      go_wp2_with fail
      go_ret
      exact ⟨_, rfl, rfl, KD0.out⟩
    | c1 :: u, hlen, hbg, hdr =>
      have hl1 : p + 1 < s.size := by simp at hlen; omega
      have hl : ((p : Int) + 1 == (s.size : Int)) = false := beq_eq_false_iff_ne.2 (by omega)
      have i1 : ∀ w, (Instr.index 9 (.string s) (.int .i64 ((p : Int) + 1))).run Tryd.prog w = .ok (.int .u8 (c1.toNat : Int)) w := fun w => idxK (hdr 1 c1 rfl) w
      have m33 : ((c1.toNat : Int) == 33) = decide (c1 = 33) := beqK c1 33 (by decide)
      have m63 : ((c1.toNat : Int) == 63) = decide (c1 = 63) := beqK c1 63 (by decide)
      have m47 : ((c1.toNat : Int) != 47) = !decide (c1 = 47) := bneK c1 47 (by decide)
      have hL1 := fun w => letter_any c1 w
      obtain ⟨z1, hz1⟩ : ∃ z : Int, z = (c1.toNat : Int) := ⟨_, rfl⟩
      rw [← hz1] at i1 m33 m63 m47 hL1
      clear hz1
      have hbeg := beg1_cons c1 u
      rw [← pre4] at hbeg
      have hbg : ∀ w, Calls Tryd.prog 47 #[.string s, .int .i64 (p : Int), .string ⟨#[60, 33, 45, 45]⟩] w fun e w' => e = .returned (.bool ([60, 33, 45, 45].isPrefixOf (60 :: c1 :: u))) ∧ w' = w := hbg
      cases hpre : [60, 33, 45, 45].isPrefixOf (60 :: c1 :: u) with
      | true =>
        rw [hpre] at hbg hbeg
        rw [if_pos rfl] at hbeg
        have KD1 := hide (show KD (60 :: c1 :: u) 1 from .inr (.inl ⟨rfl, hbeg⟩))
        have HB := hide hbg
        clear hlen hbg hdr hpre hbeg hL1 m33 m63 m47
        go_enter Tryd.func25, Tryd.ntmps25
        go_wp2_with fail
        refine (HB.out _).mono ?_
        rintro e w1 ⟨rfl, rfl⟩
        go_wp2_with fail
        go_ret
        exact ⟨_, rfl, rfl, KD1.out⟩
      | false =>
        rw [hpre] at hbg hbeg
        rw [if_neg (by decide)] at hbeg
        have HB := hide hbg
        clear hbg hpre
        by_cases h33 : c1 = 33 ∨ c1 = 63
        · rw [if_pos h33] at hbeg
          have KD3 := hide (show KD (60 :: c1 :: u) 3 from .inr (.inr (.inr (.inl ⟨rfl, hbeg⟩))))
          by_cases ha : c1 = 33
          · rw [decide_eq_true ha] at m33
            clear hlen hdr hbeg hL1 m63 m47 ha h33
            go_enter Tryd.func25, Tryd.ntmps25
            go_wp2_with fail
            refine (HB.out _).mono ?_
            rintro e w1 ⟨rfl, rfl⟩
            go_wp2_with fail
            go_ret
            exact ⟨_, rfl, rfl, KD3.out⟩
          · rw [decide_eq_false ha] at m33
            rw [decide_eq_true (h33.resolve_left ha)] at m63
            clear hlen hdr hbeg hL1 m47 ha h33
            go_enter Tryd.func25, Tryd.ntmps25
            go_wp2_with fail
            refine (HB.out _).mono ?_
            rintro e w1 ⟨rfl, rfl⟩
            go_wp2_with fail
            go_ret
            exact ⟨_, rfl, rfl, KD3.out⟩
        rw [if_neg h33] at hbeg
        rw [decide_eq_false (fun h => h33 (.inl h))] at m33
        rw [decide_eq_false (fun h => h33 (.inr h))] at m63
        cases hlet : isLet c1 with
        | true =>
          rw [hlet] at hbeg hL1
          rw [if_pos rfl] at hbeg
          have h47 : c1 ≠ 47 := by
            rintro rfl
            cases hlet
          have KD4 := hide (show KD (60 :: c1 :: u) 4 from .inr (.inr (.inr (.inr (.inl ⟨rfl, hbeg, h47⟩)))))
          have HL1 := hide hL1
          clear hlen hdr hbeg hL1 m47 h33 hlet h47
          go_enter Tryd.func25, Tryd.ntmps25
          go_wp2_with fail
          refine (HB.out _).mono ?_
          rintro e w1 ⟨rfl, rfl⟩
          go_wp2_with fail
          refine (HL1.out _).mono ?_
          rintro e w2 ⟨rfl, rfl⟩
          go_wp2_with fail
          go_ret
          exact ⟨_, rfl, rfl, KD4.out⟩
        | false =>
          rw [hlet] at hbeg hL1
          rw [if_neg (by decide)] at hbeg
          have HL1 := hide hL1
          clear hL1 hlet h33
          by_cases h47 : c1 = 47
          case neg =>
            rw [if_pos h47] at hbeg
            have KD0 := hide (show KD (60 :: c1 :: u) 0 from .inl ⟨rfl, hbeg⟩)
            rw [decide_eq_false h47] at m47
            have m47 : (z1 != 47) = true := m47
            clear hlen hdr hbeg h47
            go_enter Tryd.func25, Tryd.ntmps25
            go_wp2_with fail
            refine (HB.out _).mono ?_
            rintro e w1 ⟨rfl, rfl⟩
            go_wp2_with fail
            refine (HL1.out _).mono ?_
            rintro e w2 ⟨rfl, rfl⟩
            go_wp2_with fail
            go_ret
            exact ⟨_, rfl, rfl, KD0.out⟩
          subst h47
          rw [if_neg (by decide)] at hbeg
          have m47 : (z1 != 47) = false := m47
          match u, hlen, hbeg, hdr, HB with
          | [], hlen, hbeg, hdr, HB =>
            have KD0 := hide (show KD [60, 47] 0 from .inl ⟨rfl, hbeg⟩)
            have hl2 : ((p : Int) + 2 == (s.size : Int)) = true := beq_iff_eq.2 (by simp at hlen; omega)
            clear hlen hdr hbeg
            go_enter Tryd.func25, Tryd.ntmps25
            go_wp2_with fail
            refine (HB.out _).mono ?_
            rintro e w1 ⟨rfl, rfl⟩
            go_wp2_with fail
            refine (HL1.out _).mono ?_
            rintro e w2 ⟨rfl, rfl⟩
            go_wp2_with fail
            go_ret
            exact ⟨_, rfl, rfl, KD0.out⟩
          | c2 :: v, hlen, hbeg, hdr, HB =>
            have hl3 : p + 2 < s.size := by simp at hlen; omega
            have hl2 : ((p : Int) + 2 == (s.size : Int)) = false := beq_eq_false_iff_ne.2 (by omega)
            have i2 : ∀ w, (Instr.index 9 (.string s) (.int .i64 ((p : Int) + 2))).run Tryd.prog w = .ok (.int .u8 (c2.toNat : Int)) w := fun w => idxK (hdr 2 c2 rfl) w
            have m62 : ((c2.toNat : Int) == 62) = decide (c2 = 62) := beqK c2 62 (by decide)
            have hL2 := fun w => letter_any c2 w
            obtain ⟨z2, hz2⟩ : ∃ z : Int, z = (c2.toNat : Int) := ⟨_, rfl⟩
            rw [← hz2] at i2 m62 hL2
            clear hz2
            have hbeg : beg (60 :: 47 :: c2 :: v) = if isLet c2 then 3 else 2 := hbeg
            by_cases h62 : c2 = 62
            · subst h62
              rw [if_neg (by decide)] at hbeg
              have KD2 := hide (show KD (60 :: 47 :: 62 :: v) 2 from .inr (.inr (.inl ⟨rfl, hbeg, v, rfl⟩)))
              have m62 : (z2 == 62) = true := m62
              clear hlen hdr hbeg hL2
              go_enter Tryd.func25, Tryd.ntmps25
              go_wp2_with fail
              refine (HB.out _).mono ?_
              rintro e w1 ⟨rfl, rfl⟩
              go_wp2_with fail
              refine (HL1.out _).mono ?_
              rintro e w2 ⟨rfl, rfl⟩
              go_wp2_with fail
              go_ret
              exact ⟨_, rfl, rfl, KD2.out⟩
            rw [decide_eq_false h62] at m62
            cases hlet : isLet c2 with
            | true =>
              rw [hlet] at hbeg hL2
              rw [if_pos rfl] at hbeg
              have KD5 := hide (show KD (60 :: 47 :: c2 :: v) 5 from .inr (.inr (.inr (.inr (.inr ⟨rfl, hbeg, rfl⟩)))))
              have HL2 := hide hL2
              clear hlen hdr hbeg hL2 hlet h62
              go_enter Tryd.func25, Tryd.ntmps25
              go_wp2_with fail
              refine (HB.out _).mono ?_
              rintro e w1 ⟨rfl, rfl⟩
              go_wp2_with fail
              refine (HL1.out _).mono ?_
              rintro e w2 ⟨rfl, rfl⟩
              go_wp2_with fail
              refine (HL2.out _).mono ?_
              rintro e w3 ⟨rfl, rfl⟩
              go_wp2_with fail
              go_ret
              exact ⟨_, rfl, rfl, KD5.out⟩
            | false =>
              rw [hlet] at hbeg hL2
              rw [if_neg (by decide)] at hbeg
              have KD3 := hide (show KD (60 :: 47 :: c2 :: v) 3 from .inr (.inr (.inr (.inl ⟨rfl, hbeg⟩))))
              have HL2 := hide hL2
              clear hlen hdr hbeg hL2 hlet h62
              go_enter Tryd.func25, Tryd.ntmps25
              go_wp2_with fail
              refine (HB.out _).mono ?_
              rintro e w1 ⟨rfl, rfl⟩
              go_wp2_with fail
              refine (HL1.out _).mono ?_
              rintro e w2 ⟨rfl, rfl⟩
              go_wp2_with fail
              refine (HL2.out _).mono ?_
              rintro e w3 ⟨rfl, rfl⟩
              go_wp2_with fail
              go_ret
              exact ⟨_, rfl, rfl, KD3.out⟩
end Go.Proofs.YtjmgcdeinjamiaaDoor
