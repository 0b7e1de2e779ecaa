/-
  The program's own readLines.
-/
import Derived.Test.YtebcpmgooodmpabGreatDoorR12
namespace Go.Proofs.YtebcpmgooodmpabGreatDoor
open Go.RowKit
open Utf1 Pol8

/-- The closure that takes a list's lines. -/
abbrev takeV (b : Nat) : Value := .func (.func 64) #[] #[.pointer (some ⟨b, 0, none⟩)]
set_option maxRecDepth 100000 in
set_option maxHeartbeats 16000000 in
theorem ptakes_st (w wx : World) (S : ByteArray) (e0 : Int) (hS : S.size ≤ 100000) (h : RS w S #[.int .i64 e0, .slice none 0 0, .slice none 0 0, .slice none 0 0, .slice none 0 0, .slice none 0 0, .int .i64 0, .int .i64 0, .int .i64 0] wx) :
    Calls Tryz.prog 43 #[.pointer (some ⟨w.heap.size + 1 + 1, 0, none⟩), takeV w.heap.size] wx fun e w' => e = .returned (.tuple #[]) ∧ ∃ (p1 p2 p3 p4 p5 : Option Addr) (c1 c2 c3 c4 c5 : Nat) (l1 l2 l3 l4 l5 : List ByteArray) (S' : ByteArray), RS w S' #[.int .i64 e0, .slice p1 (List.length l1) c1, .slice p2 (List.length l2) c2, .slice p3 (List.length l3) c3, .slice p4 (List.length l4) c4, .slice p5 (List.length l5) c5, .int .i64 0, .int .i64 0, .int .i64 0] w' ∧ RowB (w.heap.size + 3) w' (.slice p1 l1.length c1) l1 ∧ RowB (w.heap.size + 3) w' (.slice p2 l2.length c2) l2 ∧ RowB (w.heap.size + 3) w' (.slice p3 l3.length c3) l3 ∧ RowB (w.heap.size + 3) w' (.slice p4 l4.length c4) l4 ∧ RowB (w.heap.size + 3) w' (.slice p5 l5.length c5) l5 ∧
      l1.map bl = (cutN 65 kElem (bl S)).1 ∧ l2.map bl = (cutN 65 kAttr (cutN 65 kElem (bl S)).2).1 ∧ l3.map bl = (cutN 65 kScheme (cutN 65 kAttr (cutN 65 kElem (bl S)).2).2).1 ∧ l4.map bl = (cutN 65 kClass (cutN 65 kScheme (cutN 65 kAttr (cutN 65 kElem (bl S)).2).2).2).1 ∧ l5.map bl = (cutN 65 kProp (cutN 65 kClass (cutN 65 kScheme (cutN 65 kAttr (cutN 65 kElem (bl S)).2).2).2).2).1 ∧ bl S' = (cutN 65 kProp (cutN 65 kClass (cutN 65 kScheme (cutN 65 kAttr (cutN 65 kElem (bl S)).2).2).2).2).2 := by
  have CT : Hid (∀ (wy : World) (T K : ByteArray) (A : Array Value) (i : Nat) (old : Value), T.size ≤ 100000 → K.size ≤ 100 → RS w T A wy → A[i]? = some old → _) := hide (fun wy T K A i old hT hK hr ho => ptake_st w wy T K A i old hT hK hr ho)
  have HH := hide h
  have HSZ := hide hS
  clear h hS
  go_enter Tryz.func43, Tryz.ntmps43
  go_wp2_with fail
  refine (CT.out _ S ⟨#[101, 108, 101, 109]⟩ _ 1 (.slice none 0 0) HSZ.out (by decide) HH.out rfl).mono ?_
  rintro e x1 ⟨rfl, p1, c1, l1, S1, hr1, hw1, hl1, hs1, hk1⟩
  have HR1 : Hid (RS w S1 #[.int .i64 e0, .slice p1 (List.length l1) c1, .slice none 0 0, .slice none 0 0, .slice none 0 0, .slice none 0 0, .int .i64 0, .int .i64 0, .int .i64 0] x1) := hide hr1
  have HZ1 : Hid (S1.size ≤ 100000) := hide (by rw [← bl_len, hs1]; have h1 := (cutN_len 65 (bl ⟨#[101, 108, 101, 109]⟩) (bl S)).2.2; have h2 := HSZ.out; rw [bl_len] at h1; omega)
  have HW1 := hide hw1
  have HL1 := hide hl1
  have HS1 := hide hs1
  have HK1 := hide hk1
  clear hr1 hw1 hl1 hs1 hk1 HH
  go_wp2_with fail
  refine (CT.out _ S1 ⟨#[97, 116, 116, 114]⟩ _ 2 (.slice none 0 0) HZ1.out (by decide) HR1.out rfl).mono ?_
  rintro e x2 ⟨rfl, p2, c2, l2, S2, hr2, hw2, hl2, hs2, hk2⟩
  have HR2 : Hid (RS w S2 #[.int .i64 e0, .slice p1 (List.length l1) c1, .slice p2 (List.length l2) c2, .slice none 0 0, .slice none 0 0, .slice none 0 0, .int .i64 0, .int .i64 0, .int .i64 0] x2) := hide hr2
  have HZ2 : Hid (S2.size ≤ 100000) := hide (by rw [← bl_len, hs2]; have h1 := (cutN_len 65 (bl ⟨#[97, 116, 116, 114]⟩) (bl S1)).2.2; have h2 := HZ1.out; rw [bl_len] at h1; omega)
  have HW2 := hide hw2
  have HL2 := hide hl2
  have HS2 := hide hs2
  have HK2 := hide hk2
  clear hr2 hw2 hl2 hs2 hk2 HR1
  go_wp2_with fail
  refine (CT.out _ S2 ⟨#[115, 99, 104, 101, 109, 101]⟩ _ 3 (.slice none 0 0) HZ2.out (by decide) HR2.out rfl).mono ?_
  rintro e x3 ⟨rfl, p3, c3, l3, S3, hr3, hw3, hl3, hs3, hk3⟩
  have HR3 : Hid (RS w S3 #[.int .i64 e0, .slice p1 (List.length l1) c1, .slice p2 (List.length l2) c2, .slice p3 (List.length l3) c3, .slice none 0 0, .slice none 0 0, .int .i64 0, .int .i64 0, .int .i64 0] x3) := hide hr3
  have HZ3 : Hid (S3.size ≤ 100000) := hide (by rw [← bl_len, hs3]; have h1 := (cutN_len 65 (bl ⟨#[115, 99, 104, 101, 109, 101]⟩) (bl S2)).2.2; have h2 := HZ2.out; rw [bl_len] at h1; omega)
  have HW3 := hide hw3
  have HL3 := hide hl3
  have HS3 := hide hs3
  have HK3 := hide hk3
  clear hr3 hw3 hl3 hs3 hk3 HR2
  go_wp2_with fail
  refine (CT.out _ S3 ⟨#[99, 108, 97, 115, 115]⟩ _ 4 (.slice none 0 0) HZ3.out (by decide) HR3.out rfl).mono ?_
  rintro e x4 ⟨rfl, p4, c4, l4, S4, hr4, hw4, hl4, hs4, hk4⟩
  have HR4 : Hid (RS w S4 #[.int .i64 e0, .slice p1 (List.length l1) c1, .slice p2 (List.length l2) c2, .slice p3 (List.length l3) c3, .slice p4 (List.length l4) c4, .slice none 0 0, .int .i64 0, .int .i64 0, .int .i64 0] x4) := hide hr4
  have HZ4 : Hid (S4.size ≤ 100000) := hide (by rw [← bl_len, hs4]; have h1 := (cutN_len 65 (bl ⟨#[99, 108, 97, 115, 115]⟩) (bl S3)).2.2; have h2 := HZ3.out; rw [bl_len] at h1; omega)
  have HW4 := hide hw4
  have HL4 := hide hl4
  have HS4 := hide hs4
  have HK4 := hide hk4
  clear hr4 hw4 hl4 hs4 hk4 HR3
  go_wp2_with fail
  refine (CT.out _ S4 ⟨#[112, 114, 111, 112]⟩ _ 5 (.slice none 0 0) HZ4.out (by decide) HR4.out rfl).mono ?_
  rintro e x5 ⟨rfl, p5, c5, l5, S5, hr5, hw5, hl5, hs5, hk5⟩
  have HR5 : Hid (RS w S5 #[.int .i64 e0, .slice p1 (List.length l1) c1, .slice p2 (List.length l2) c2, .slice p3 (List.length l3) c3, .slice p4 (List.length l4) c4, .slice p5 (List.length l5) c5, .int .i64 0, .int .i64 0, .int .i64 0] x5) := hide hr5
  have HZ5 : Hid (S5.size ≤ 100000) := hide (by rw [← bl_len, hs5]; have h1 := (cutN_len 65 (bl ⟨#[112, 114, 111, 112]⟩) (bl S4)).2.2; have h2 := HZ4.out; rw [bl_len] at h1; omega)
  have HW5 := hide hw5
  have HL5 := hide hl5
  have HS5 := hide hs5
  have HK5 := hide hk5
  clear hr5 hw5 hl5 hs5 hk5 HR4
  clear CT
  go_wp2_with fail
  go_end0
  have e1 : bl S1 = (cutN 65 kElem (bl S)).2 := HS1.out
  have e2 : bl S2 = (cutN 65 kAttr (bl S1)).2 := HS2.out
  have e3 : bl S3 = (cutN 65 kScheme (bl S2)).2 := HS3.out
  have e4 : bl S4 = (cutN 65 kClass (bl S3)).2 := HS4.out
  have e5 : bl S5 = (cutN 65 kProp (bl S4)).2 := HS5.out
  refine ⟨rfl, p1, p2, p3, p4, p5, c1, c2, c3, c4, c5, l1, l2, l3, l4, l5, S5, HR5.out, HK5.out _ _ (HK4.out _ _ (HK3.out _ _ (HK2.out _ _ HW1.out))), HK5.out _ _ (HK4.out _ _ (HK3.out _ _ HW2.out)), HK5.out _ _ (HK4.out _ _ HW3.out), HK5.out _ _ HW4.out, HW5.out, HL1.out, ?_, ?_, ?_, ?_, ?_⟩
  · rw [← e1]; exact HL2.out
  · rw [← e1, ← e2]; exact HL3.out
  · rw [← e1, ← e2, ← e3]; exact HL4.out
  · rw [← e1, ← e2, ← e3, ← e4]; exact HL5.out
  · rw [← e1, ← e2, ← e3, ← e4]; exact e5
end Go.Proofs.YtebcpmgooodmpabGreatDoor
