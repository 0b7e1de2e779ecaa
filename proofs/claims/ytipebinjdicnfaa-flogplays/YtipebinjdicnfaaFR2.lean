/-
  The document's Frames and Frame, walked.
-/
import Derived.Test.YtipebinjdicnfaaFW4
import Derived.Deep.LoopGhost
import Derived.Deep.CutRange
namespace Go.Proofs.Ytipebinjdicnfaa
open Go.RowKit

theorem add_add (x : Addr) (i j : Nat) : (x.add i).add j = x.add (i + j) := by
  cases i <;> cases j <;> simp [Addr.add, Nat.add_assoc]
theorem num_at {b : List UInt8} {k : Nat} (h : k + 3 ≤ b.length) : ∃ X Y Z : Nat, X < 256 ∧ Y < 256 ∧ Z < 256 ∧ num (b.drop k) = X * 65536 + Y * 256 + Z ∧ ∀ (w : World) (x : Addr), (∀ j (hj : j < b.length), w.cell? (x.add j) = some (.int .u8 (b[j].toNat : Int))) → w.cell? (x.add k) = some (.int .u8 (X : Int)) ∧ w.cell? (x.add (k + 1)) = some (.int .u8 (Y : Int)) ∧ w.cell? (x.add (k + 2)) = some (.int .u8 (Z : Int)) := by
  refine ⟨b[k].toNat, b[k + 1].toNat, b[k + 2].toNat, b[k].toNat_lt, b[k + 1].toNat_lt, b[k + 2].toNat_lt, ?_, fun w x hx => ⟨hx k (by omega), hx (k + 1) (by omega), hx (k + 2) (by omega)⟩⟩
  have e0 : (b.drop k).getD 0 0 = b[k] := by rw [List.getD_eq_getElem?_getD, List.getElem?_drop, Nat.add_zero, List.getElem?_eq_getElem (by omega)]; rfl
  have e1 : (b.drop k).getD 1 0 = b[k + 1] := by rw [List.getD_eq_getElem?_getD, List.getElem?_drop, List.getElem?_eq_getElem (by omega)]; rfl
  have e2 : (b.drop k).getD 2 0 = b[k + 2] := by rw [List.getD_eq_getElem?_getD, List.getElem?_drop, List.getElem?_eq_getElem (by omega)]; rfl
  unfold num
  rw [e0, e1, e2]

/-- What is held in the loop of the document's Frames. -/
def FrI (w wr : World) (b : List UInt8) (N : Nat) (q : Option Addr) (n c k : Nat) : Prop :=
  ∃ l : List ByteArray, n = l.length ∧ wr.ownsRow w.heap.size 9 1 (.slice q n c) n (strV l) ∧ (∀ t ∈ l, t.size ≤ 20000) ∧ b = frs l ++ b.drop k ∧ (frs l).length = k ∧ k ≤ N ∧ Below w.heap.size w wr
theorem FrI.done {w wr : World} {b : List UInt8} {N : Nat} {q : Option Addr} {n c k : Nat} (h : FrI w wr b N q n c k) (hs : Stop (b.drop k)) : ∃ l r, n = List.length l ∧ Rd b l r ∧ wr.ownsRow w.heap.size 9 1 (.slice q n c) l.length (strV l) ∧ (frs l).length = k ∧ Below w.heap.size w wr := by
  obtain ⟨l, h1, h2, h3, h4, h5, h6, h7⟩ := h
  exact ⟨l, b.drop k, h1, ⟨h4, h3, hs⟩, by rw [← h1]; exact h2, h5, h7⟩

set_option maxHeartbeats 8000000 in
theorem frames_any (w : World) (P : Option Addr) (N c : Nat) (b : List UInt8) (h : IsBytes w (.slice P N c) b) (hc : N ≤ c) (hN : N ≤ 60000) :
    Calls Try.prog 26 #[.slice P N c] w fun e w' => (∃ (q : Option Addr) (n cc : Nat) (l : List ByteArray) (r : List UInt8), n = l.length ∧ e = .returned (.tuple #[.slice q n cc, .int .i64 ((frs l).length : Int)]) ∧ Rd b l r ∧ w'.ownsRow w.heap.size 9 1 (.slice q n cc) n (strV l)) ∧ Below w.heap.size w w' := by
  have HN := hide h.len
  have HRW := hide h
  clear h
  go_enter Try.func26, Try.ntmps26
  go_wp2_with fail
  go_loopg [4, 5] N (fun g v4 v5 wr => ∃ (k n cc : Nat) (q : Option Addr), k + g = N ∧ v5 = .int .i64 (k : Int) ∧ v4 = .slice q n cc ∧ Hid (FrI w wr b N q n cc k))
  case atStart => exact ⟨0, 0, 0, none, by omega, rfl, rfl, hide ⟨[], rfl, World.ownsRow_nil .., by simp, rfl, rfl, Nat.zero_le _, Below.refl _ _⟩⟩
  case round =>
    obtain ⟨k, n, cc, q, hk, rfl, rfl, HI⟩ := hrel
    by_cases h3 : k + 3 ≤ N
    · have d3 : decide ((k : Int) + 3 ≤ (N : Int)) = true := decide_eq_true (by omega)
      obtain ⟨X, Y, Z, hX, hY, hZ, hnum, hcl⟩ := num_at (b := b) (k := k) (by have := HN.out; omega)
      obtain ⟨x, rfl, hra⟩ : ∃ x, P = some x ∧ ∀ j (hj : j < b.length), w.cell? (x.add j) = some (.int .u8 (b[j].toNat : Int)) := by
        rcases HRW.out with ⟨e, rfl⟩ | ⟨x, cap, e, hx⟩
        · have := HN.out
          simp at this
          omega
        · injection e with e _ _
          exact ⟨x, e, hx⟩
      have HRA : Hid (∀ wx, Below w.heap.size w wx → ∀ j (hj : j < b.length), wx.cell? (x.add j) = some (.int .u8 (b[j].toNat : Int))) := hide (fun wx hx j hj => cell_keep (hra j hj) hx)
      obtain ⟨c0, c1, c2⟩ := hcl wr x (HRA.out wr (by obtain ⟨_, _, _, _, _, _, _, z7⟩ := HI.out; exact z7))
      have i0 : (k : Int) < (N : Int) := by omega
      obtain ⟨K1, hK1⟩ : ∃ K1 : Nat, K1 = k + 1 := ⟨_, rfl⟩
      obtain ⟨K2, hK2⟩ : ∃ K2 : Nat, K2 = k + 2 := ⟨_, rfl⟩
      rw [← hK1] at c1
      rw [← hK2] at c2
      have e1 : (k : Int) + 1 = (K1 : Int) := by omega
      have e2 : (k : Int) + 2 = (K2 : Int) := by omega
      have i1 : (K1 : Int) < (N : Int) := by omega
      have i2 : (K2 : Int) < (N : Int) := by omega
      have b0 : (X : Int) ≤ 255 := by omega
      have b1 : (Y : Int) ≤ 255 := by omega
      have b2 : (Z : Int) ≤ 255 := by omega
      obtain ⟨M, hM⟩ : ∃ M : Nat, M = X * 65536 + Y * 256 + Z := ⟨_, rfl⟩
      have hMi : (X : Int) * 65536 + (Y : Int) * 256 + (Z : Int) = (M : Int) := by omega
      have HMM : Hid (num (b.drop k) = M) := hide (by rw [hM]; exact hnum)
      have hMl : M < 16777216 := by omega
      clear hcl hra hnum hK1 hK2
      go_upto_region 4 with fail
      go_cut [6] from 7 to 61 (fun v6 wx => v6 = .int .i64 (M : Int) ∧ wx = wr.drew)
      case first =>
        have HMI := hide hMi
        clear hMi hM
        go_region
        go_wp2_with fail
        go_meet
        exact ⟨by rw [HMI.out], rfl⟩
      case rest =>
      obtain ⟨rfl, rfl⟩ := hcut
      have HI2 : Hid (FrI w wr.drew b N q n cc k) := hide (by
        obtain ⟨l, z1, z2, z3, z4, z5, z6, z7⟩ := HI.out
        exact ⟨l, z1, z2.drew, z3, z4, z5, z6, z7.drew⟩)
      obtain ⟨wd, hwd⟩ : ∃ wd, wd = wr.drew := ⟨_, rfl⟩
      rw [← hwd] at HI2 ⊢
      clear hwd HI c0 c1 c2 e1 e2 i0 i1 i2 b0 b1 b2 hM hMi hX hY hZ d3
      by_cases hG : M ≤ 20000
      · have d20 : decide ((20000 : Int) < (M : Int)) = false := decide_eq_false (by omega)
        obtain ⟨K3, hK3⟩ : ∃ K3 : Nat, K3 = k + 3 := ⟨_, rfl⟩
        obtain ⟨K4, hK4⟩ : ∃ K4 : Nat, K4 = K3 + M := ⟨_, rfl⟩
        have e3 : (k : Int) + 3 = (K3 : Int) := by omega
        have e4 : (K3 : Int) + (M : Int) = (K4 : Int) := by omega
        have hb3 : (K3 : Int) ≤ 60000 := by omega
        by_cases hG2 : K4 ≤ N
        · have d4 : decide (N < K4) = false := decide_eq_false (by omega)
          have HNS : Hid (¬ Stop (b.drop k)) := hide (by
            unfold Stop
            rw [HMM.out, List.length_drop, ← HN.out]
            omega)
          have HKK : Hid (K3 = k + 3 ∧ K4 = K3 + M ∧ K4 ≤ N) := hide ⟨hK3, hK4, hG2⟩
          obtain ⟨t, hts, ht2, htr, htb, htl⟩ := go_on HNS.out
          rw [HMM.out] at hts htr htb htl
          have i0 : (K3 : Int) ≤ (K4 : Int) := by omega
          have i1 : (K4 : Int) ≤ (c : Int) := by omega
          have i2 : (K3 : Int) ≤ (c : Int) := by omega
          obtain ⟨ls, q1, q2, q3, q4, q5, q6, q7⟩ := HI2.out
          have hn3 : n ≤ 60000 := by have := frs_len ls; omega
          have hcv : (convert 38 9 (.slice (if c = K3 then some x else some (x.add K3)) (K4 - K3) (c - K3))).run Try.prog wd = .ok (.string t) wd := by
            have hM2 : K4 - K3 = M := by omega
            have hbt : bl t = (b.drop K3).take M := by rw [htb, List.drop_drop, ← hK3]
            have hlt : (bl t).length = M := by rw [bl_len]; exact hts
            have h1 : IsBytes wd (.slice (some (x.add K3)) M (c - K3)) (bl t) := by
              refine .inr ⟨x.add K3, c - K3, by rw [hlt], fun j hj => ?_⟩
              rw [add_add]
              rw [hlt] at hj
              have h2 := HRA.out wd q7 (K3 + j) (by have := HN.out; omega)
              rw [h2]
              congr 3
              have e9 : (bl t)[j]? = b[K3 + j]? := by rw [hbt, List.getElem?_take, if_pos hj, List.getElem?_drop]
              rw [List.getElem?_eq_getElem (by rw [hlt]; exact hj), List.getElem?_eq_getElem (by have := HN.out; omega)] at e9
              rw [Option.some.inj e9]
            rw [hM2]
            by_cases hcK : c = K3
            · rw [if_pos hcK]
              have h0 : M = 0 := by omega
              have hb0 : bl t = [] := List.eq_nil_of_length_eq_zero (by rw [hlt, h0])
              have h3 : IsBytes wd (.slice (some x) M (c - K3)) (bl t) := by
                rw [hb0, h0]
                exact .inr ⟨_, _, rfl, fun j hj => absurd hj (by simp)⟩
              exact h3.conv
            · rw [if_neg hcK]
              exact h1.conv
          have HOW : Hid ((wd.alloc (.cells #[.string t] 9)).ownsRow w.heap.size 9 1 (.slice q n cc) n (strV ls)) := hide (q2.alloc _)
          have HT5 := hide (str_one wd t)
          have HW5 : Hid (Below w.heap.size w (wd.alloc (.cells #[.string t] 9))) := hide (q7.alloc q7.size _)
          have HTT := hide (And.intro hts (And.intro ht2 htr))
          have HQ2 := hide (And.intro q1 (And.intro q3 (And.intro q4 q5)))
          clear q1 q2 q3 q4 q5 q6 q7 hts ht2 htr htb htl HI2 hK3 hK4 hG2
          go_wp2_with (at_builtin; refine wpList_append_strs rfl _ _ rfl w.heap.size _ n ls rfl HOW.out _ [t] rfl HT5.out (by simp; omega) HW5.out.size ?_)
          all_goals
            intro v7 w7 ho7 hg7
            have h7 : w7.ownsRow w.heap.size 9 1 v7 (n + 1) (strV (ls ++ [t])) := ho7
            obtain ⟨q7, c7, rfl⟩ := own_len h7
            have HR7 : Hid (FrI w w7 b N q7 (n + 1) c7 K4) := hide (by
              refine ⟨ls ++ [t], by rw [List.length_append, ← HQ2.out.1]; rfl, h7, ?_, ?_, ?_, HKK.out.2.2, HW5.out.grown hg7 HW5.out.size (fun kk hkk => (HOW.out.lt kk hkk).1)⟩
              · intro y hy
                rcases List.mem_append.1 hy with hy | hy
                · exact HQ2.out.2.1 y hy
                · rw [List.mem_singleton.1 hy]
                  exact HTT.out.2.1
              · have e : 3 + M + k = K4 := by have := HKK.out; omega
                have e2 := HTT.out.2.2
                rw [List.drop_drop, Nat.add_comm k (3 + M), e] at e2
                rw [frs_app, frs_one, List.append_assoc, ← e2]
                exact HQ2.out.2.2.1
              · rw [frs_app, frs_one, List.length_append, fr_len, HQ2.out.2.2.2, HTT.out.1]
                have := HKK.out
                omega)
            clear ho7 hg7 h7
            go_wp2_with fail
            try (have hcK1 : c = K3 := by assumption
                 subst hcK1)
            go_roundg (N - K4)
            case measure => have := HKK.out; omega
            case rel => exact ⟨K4, n + 1, c7, q7, by have := HKK.out; omega, rfl, rfl, HR7⟩
        · have d4 : decide (N < K4) = true := decide_eq_true (by omega)
          have HD := hide (HI2.out.done (by
            unfold Stop
            rw [HMM.out, List.length_drop, ← HN.out]
            omega))
          clear hK3 hK4 hG2
          go_wp2_with fail
          refine bodyPost_ret (results_tmp2 rfl _ _ _) rfl ?_
          obtain ⟨l, r, e1, e2, e3, e4, e5⟩ := HD.out
          exact ⟨⟨q, n, cc, l, r, e1, by rw [e4]; rfl, e2, by rw [e1]; rw [e1] at e3; exact e3⟩, e5⟩
      · have d20 : decide ((20000 : Int) < (M : Int)) = true := decide_eq_true (by omega)
        have HD := hide (HI2.out.done (by
          unfold Stop
          rw [HMM.out]
          omega))
        clear hG
        go_wp2_with fail
        refine bodyPost_ret (results_tmp2 rfl _ _ _) rfl ?_
        obtain ⟨l, r, e1, e2, e3, e4, e5⟩ := HD.out
        exact ⟨⟨q, n, cc, l, r, e1, by rw [e4]; rfl, e2, by rw [e1]; rw [e1] at e3; exact e3⟩, e5⟩
    · have d3 : decide ((k : Int) + 3 ≤ (N : Int)) = false := decide_eq_false (by omega)
      have HD := hide (HI.out.done (.inl (by rw [List.length_drop, ← HN.out]; omega)))
      go_wp2_with fail
      refine bodyPost_ret (results_tmp2 rfl _ _ _) rfl ?_
      obtain ⟨l, r, e1, e2, e3, e4, e5⟩ := HD.out
      exact ⟨⟨q, n, cc, l, r, e1, by rw [e4]; rfl, e2, by rw [e1]; rw [e1] at e3; exact e3⟩, e5⟩
end Go.Proofs.Ytipebinjdicnfaa
