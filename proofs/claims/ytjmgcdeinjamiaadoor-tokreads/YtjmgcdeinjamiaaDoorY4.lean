/-
  The document's value: the value that begins at a place.
-/
import Derived.Test.YtjmgcdeinjamiaaDoorY3
namespace Go.Proofs.YtjmgcdeinjamiaaDoor
open Go.RowKit
open Utf1

/-- The value at the front, and what is behind it; none: it never ends. -/
def valOf : List UInt8 → Option (List UInt8 × List UInt8)
  | [] => some ([], [])
  | q :: v => if q = 34 ∨ q = 39 then (match v.dropWhile (fun x => x != q) with | [] => none | _ :: r => some (v.takeWhile (fun x => x != q), r)) else some ((q :: v).takeWhile (fun x => !isVa x), (q :: v).dropWhile (fun x => !isVa x))
theorem oneAt_val (c : UInt8) (t u : List UInt8) (h : (t.dropWhile (fun x => !isAt x)).dropWhile isBl = 61 :: u) : oneAt c t = (valOf (u.dropWhile isBl)).map fun p => (c :: t.takeWhile (fun x => !isAt x), p.1, p.2) := by
  unfold oneAt
  rw [h]
  simp only
  cases u.dropWhile isBl with
  | nil => rfl
  | cons q v =>
    unfold valOf
    simp only
    split
    · split <;> rename_i h2 <;> simp [h2]
    · rfl
theorem oneAt_no (c : UInt8) (t : List UInt8) (h : ∀ u, (t.dropWhile (fun x => !isAt x)).dropWhile isBl ≠ 61 :: u) : oneAt c t = some (c :: t.takeWhile (fun x => !isAt x), [], (t.dropWhile (fun x => !isAt x)).dropWhile isBl) := by
  unfold oneAt
  split
  · rename_i u hu
    exact absurd hu (h u)
  · rfl
theorem find_one (q : UInt8) : ∀ v : List UInt8, findF [q] v = (v.takeWhile (fun x => x != q)).length
  | [] => rfl
  | c :: r => by
    unfold findF
    by_cases h : q = c
    · subst h
      rw [if_pos (by simp), List.takeWhile_cons, if_neg (by simp)]
      rfl
    · rw [if_neg (by simp [h]), find_one q r, List.takeWhile_cons, if_pos (by simpa using Ne.symm h)]
      rfl
theorem drop_len {p : UInt8 → Bool} : ∀ l : List UInt8, l.drop (l.takeWhile p).length = l.dropWhile p
  | [] => rfl
  | c :: t => by
    rw [List.takeWhile_cons, List.dropWhile_cons]
    split
    · exact drop_len t
    · rfl
theorem take_len {p : UInt8 → Bool} : ∀ l : List UInt8, l.take (l.takeWhile p).length = l.takeWhile p
  | [] => rfl
  | c :: t => by
    rw [List.takeWhile_cons]
    split
    · exact congrArg (List.cons c) (take_len t)
    · rfl
theorem tw_le (p : UInt8 → Bool) (l : List UInt8) : (l.takeWhile p).length ≤ l.length := by
  have := congrArg List.length (List.takeWhile_append_dropWhile (p := p) (l := l))
  rw [List.length_append] at this
  omega
theorem drop_drop' (s : ByteArray) (p n : Nat) : ((bl s).drop p).drop n = (bl s).drop (p + n) := by rw [List.drop_drop]
theorem goes_va : goesOn [62] = fun x => !isVa x := by
  funext x
  unfold goesOn isVa
  cases isBl x <;> simp <;> rfl
theorem goes_nm : goesOn [47, 62] = fun x => !isNm x := by
  funext x
  unfold goesOn isNm
  cases isBl x <;> simp <;> rfl
theorem goes_at : goesOn [47, 62, 61] = fun x => !isAt x := by
  funext x
  unfold goesOn isAt
  cases isBl x <;> simp [Bool.and_assoc] <;> rfl

def VRet (s : ByteArray) (l : List UInt8) (w : World) (e : Ending) (w' : World) : Prop := (∃ n, w' = w.drewN n) ∧
  ((valOf l = none ∧ e = .returned (.tuple #[.string ⟨#[]⟩, .int .i64 (-1)])) ∨ ∃ (V : ByteArray) (r : List UInt8) (q : Nat), valOf l = some (bl V, r) ∧ V.size ≤ s.size ∧ e = .returned (.tuple #[.string V, .int .i64 (q : Int)]) ∧ q ≤ s.size ∧ (bl s).drop q = r)

set_option maxHeartbeats 8000000 in
theorem value_any (s : ByteArray) (p : Nat) (hp : p ≤ s.size) (hs : s.size ≤ 100000) (w : World) :
    Calls Tryd.prog 54 #[.string s, .int .i64 (p : Int)] w fun e w' => VRet s ((bl s).drop p) w e w' := by
  by_cases hlt : p < s.size
  case neg =>
    have HV : Hid (VRet s ((bl s).drop p) w (.returned (.tuple #[.string ⟨#[]⟩, .int .i64 (p : Int)])) w) := hide (by
      rw [drop_end hlt]
      exact ⟨⟨0, rfl⟩, .inr ⟨⟨#[]⟩, [], p, rfl, Nat.zero_le _, rfl, hp, drop_end hlt⟩⟩)
    have hd : ((p : Int) == (s.size : Int)) = true := beq_iff_eq.2 (by omega)
    go_enter Tryd.func54, Tryd.ntmps54
    go_wp2_with fail
    go_ret2
    exact HV.out
  have hd : ((p : Int) == (s.size : Int)) = false := beq_eq_false_iff_ne.2 (by omega)
  obtain ⟨c, hc, hge⟩ := dropc hlt
  have i0 := fun w => idxK hge w
  have m34 : ((c.toNat : Int) == 34) = decide (c = 34) := beqK c 34 (by decide)
  have m39 : ((c.toNat : Int) == 39) = decide (c = 39) := beqK c 39 (by decide)
  obtain ⟨z, hz⟩ : ∃ z : Int, z = (c.toNat : Int) := ⟨_, rfl⟩
  rw [← hz] at i0 m34 m39
  clear hz
  by_cases hq : c = 34 ∨ c = 39
  case neg =>
    rw [decide_eq_false (fun h => hq (.inl h))] at m34
    rw [decide_eq_false (fun h => hq (.inr h))] at m39
    have hu := fun w => until_any s p ⟨#[62]⟩ hp hs (by decide) w
    have e1 : (((bl s).drop p).takeWhile (goesOn (bl ⟨#[62]⟩))) = ((bl s).drop p).takeWhile (fun x => !isVa x) := by
      rw [show bl ⟨#[62]⟩ = [62] from rfl, goes_va]
    rw [e1] at hu
    have hle := tw_le (fun x => !isVa x) ((bl s).drop p)
    rw [List.length_drop, bl_len] at hle
    have HF : Hid (∀ n, VRet s ((bl s).drop p) w (.returned (.tuple #[.string (s.extract p (p + (((bl s).drop p).takeWhile (fun x => !isVa x)).length)), .int .i64 ((p + (((bl s).drop p).takeWhile (fun x => !isVa x)).length : Nat) : Int)])) (w.drewN n)) := hide (by
      intro n
      refine ⟨⟨n, rfl⟩, .inr ⟨_, ((bl s).drop p).dropWhile (fun x => !isVa x), _, ?_, ?_, rfl, by omega, ?_⟩⟩
      · rw [ext_mid, Nat.add_sub_cancel_left]
        show _ = some (((bl s).drop p).take _, _)
        rw [take_len, hc]
        unfold valOf
        simp only
        rw [if_neg hq]
      · rw [ext_mid, Nat.add_sub_cancel_left, ← bl_len]
        show (((bl s).drop p).take _).length ≤ _
        rw [take_len]
        omega
      · rw [← drop_drop', drop_len])
    obtain ⟨n, hn⟩ : ∃ n, n = (((bl s).drop p).takeWhile (fun x => !isVa x)).length := ⟨_, rfl⟩
    rw [← hn] at hu HF hle
    have HU := hide hu
    clear hu hn hc hge hq e1
    go_enter Tryd.func54, Tryd.ntmps54
    go_wp2_with fail
    refine (HU.out _).mono ?_
    rintro e w1 ⟨rfl, n1, rfl⟩
    go_wp2_with fail
    go_ret2
    exact HF.out n1
  have hb : bl (s.extract p (p + 1)) = [c] := by
    rw [ext_mid, Nat.add_sub_cancel_left]
    show ((bl s).drop p).take 1 = [c]
    rw [hc]
    rfl
  have hf := fun w => find_any s (p + 1) (s.extract p (p + 1)) (by omega) hs (by rw [← bl_len, hb]; simp) w
  rw [hb, find_one] at hf
  have hle := tw_le (fun x => x != c) ((bl s).drop (p + 1))
  rw [List.length_drop, bl_len] at hle
  have HF : Hid (∀ n, n = (((bl s).drop (p + 1)).takeWhile (fun x => x != c)).length → p + 1 + n < s.size → VRet s ((bl s).drop p) w (.returned (.tuple #[.string (s.extract (p + 1) (p + 1 + n)), .int .i64 ((p + 1 + n + 1 : Nat) : Int)])) w) := hide (by
    intro n hn hlt2
    refine ⟨⟨0, rfl⟩, .inr ⟨_, (bl s).drop (p + 1 + n + 1), _, ?_, ?_, rfl, by omega, rfl⟩⟩
    · rw [ext_mid, Nat.add_sub_cancel_left]
      show _ = some (((bl s).drop (p + 1)).take n, _)
      rw [hn, take_len, ← hn, hc]
      unfold valOf
      simp only
      rw [if_pos hq]
      have e : ((bl s).drop (p + 1)).dropWhile (fun x => x != c) = (bl s).drop (p + 1 + n) := by
        rw [← drop_len, ← hn, drop_drop']
      obtain ⟨d, hd, _⟩ := dropc hlt2
      rw [e, hd]
    · rw [ext_mid, Nat.add_sub_cancel_left, ← bl_len]
      show (((bl s).drop (p + 1)).take _).length ≤ _
      rw [List.length_take, List.length_drop, bl_len]
      omega)
  have HN : Hid (∀ n, n = (((bl s).drop (p + 1)).takeWhile (fun x => x != c)).length → ¬ p + 1 + n < s.size → VRet s ((bl s).drop p) w (.returned (.tuple #[.string ⟨#[]⟩, .int .i64 (-1)])) w) := hide (by
    intro n hn hlt2
    refine ⟨⟨0, rfl⟩, .inl ⟨?_, rfl⟩⟩
    rw [hc]
    unfold valOf
    simp only
    rw [if_pos hq]
    have e : ((bl s).drop (p + 1)).dropWhile (fun x => x != c) = (bl s).drop (p + 1 + n) := by
      rw [← drop_len, ← hn, drop_drop']
    rw [e, drop_end hlt2])
  have HNN : Hid (∃ n, n = (((bl s).drop (p + 1)).takeWhile (fun x => x != c)).length) := hide ⟨_, rfl⟩
  obtain ⟨n, hn⟩ := HNN.out
  have HF := hide (HF.out n hn)
  have HN := hide (HN.out n hn)
  rw [← hn] at hf hle
  have hf : ∀ w, Calls Tryd.prog 27 #[.string s, .int .i64 ((p : Int) + 1), .string (s.extract p (p + 1))] w fun e w' => e = .returned (.int .i64 ((p + 1 + n : Nat) : Int)) ∧ w' = w := hf
  have HU := hide hf
  clear hf hn hc hge hb HNN
  by_cases ha : c = 34
  · rw [decide_eq_true ha] at m34
    clear ha hq m39
    by_cases hlt2 : p + 1 + n < s.size
    · have hd2 : ((p : Int) + 1 + (n : Int) == (s.size : Int)) = false := beq_eq_false_iff_ne.2 (by omega)
      have HX := hide (HF.out hlt2)
      have e : ((p + 1 + n + 1 : Nat) : Int) = (p : Int) + 1 + (n : Int) + 1 := by omega
      rw [e] at HX
      clear HF HN e
      go_enter Tryd.func54, Tryd.ntmps54
      go_wp2_with fail
      refine (HU.out _).mono ?_
      rintro e w1 ⟨rfl, rfl⟩
      go_wp2_with fail
      go_ret2
      exact HX.out
    · have hd2 : ((p : Int) + 1 + (n : Int) == (s.size : Int)) = true := beq_iff_eq.2 (by omega)
      have HX := hide (HN.out hlt2)
      clear HF HN
      go_enter Tryd.func54, Tryd.ntmps54
      go_wp2_with fail
      refine (HU.out _).mono ?_
      rintro e w1 ⟨rfl, rfl⟩
      go_wp2_with fail
      go_ret2
      exact HX.out
  · rw [decide_eq_false ha] at m34
    rw [decide_eq_true (hq.resolve_left ha)] at m39
    clear ha hq
    by_cases hlt2 : p + 1 + n < s.size
    · have hd2 : ((p : Int) + 1 + (n : Int) == (s.size : Int)) = false := beq_eq_false_iff_ne.2 (by omega)
      have HX := hide (HF.out hlt2)
      have e : ((p + 1 + n + 1 : Nat) : Int) = (p : Int) + 1 + (n : Int) + 1 := by omega
      rw [e] at HX
      clear HF HN e
      go_enter Tryd.func54, Tryd.ntmps54
      go_wp2_with fail
      refine (HU.out _).mono ?_
      rintro e w1 ⟨rfl, rfl⟩
      go_wp2_with fail
      go_ret2
      exact HX.out
    · have hd2 : ((p : Int) + 1 + (n : Int) == (s.size : Int)) = true := beq_iff_eq.2 (by omega)
      have HX := hide (HN.out hlt2)
      clear HF HN
      go_enter Tryd.func54, Tryd.ntmps54
      go_wp2_with fail
      refine (HU.out _).mono ?_
      rintro e w1 ⟨rfl, rfl⟩
      go_wp2_with fail
      go_ret2
      exact HX.out
end Go.Proofs.YtjmgcdeinjamiaaDoor
