/-
  The document's Size at a tree that is read alone: it counts as the program does, but for the depth of what stands within a text.
-/
import Derived.Test.YtholfdfjapgfbaaN1
namespace Utf1
mutual
/-- How many elements stand within one another, as the document's Size tells it. -/
def drN : Nd → Nat
  | .mk n _ _ k => if n = [] then 0 else drL k + 1
def drL : List Nd → Nat
  | [] => 0
  | n :: r => max (drN n) (drL r)
end
theorem drN_kids (n : Nd) : drN n = if n.name = [] then 0 else drL n.kids + 1 := by
  cases n
  rw [drN]
  rfl
theorem drL_app : ∀ a b : List Nd, drL (a ++ b) = max (drL a) (drL b)
  | [], b => by simp [drL]
  | n :: a, b => by
    rw [List.cons_append, drL, drL, drL_app a b]
    omega
mutual
theorem drN_nc : ∀ n : Nd, drN n ≤ ncN n
  | .mk n a t k => by
    rw [drN, ncN]
    have := drL_nc k
    split <;> omega
theorem drL_nc : ∀ l : List Nd, drL l ≤ ncL l
  | [] => Nat.le_refl _
  | n :: r => by
    rw [drL, ncL]
    have := drN_nc n
    have := drL_nc r
    omega
end
end Utf1
namespace Go.Proofs.Ytholfdfjapgfbaa
open Go.RowKit
open Utf1

set_option maxRecDepth 100000 in
set_option maxHeartbeats 8000000 in
theorem rsize_nst : ∀ (D : Nat) (w : World) (v : Value) (ns : List Nd), NAtD w D v ns → ncL ns ≤ 1000000000 →
    Calls Try.prog 21 #[v] w fun e w' => e = .returned (.tuple #[.int .i64 (ncL ns : Int), .int .i64 (drL ns : Int)]) ∧ Below w.heap.size w w' := by
  intro D
  induction D with
  | zero => intro w v ns h; exact h.elim
  | succ D0 ih =>
  intro w v ns hk hM
  obtain ⟨p, c, rfl, -, hnode⟩ := hk
  have HNODE := hide hnode
  have HIH := hide ih
  have hlc := nc_len ns
  obtain ⟨N, hN⟩ : ∃ N, N = ns.length := ⟨_, rfl⟩
  rw [← hN] at hlc ⊢
  have HN := hide hN
  clear hnode ih hN
  go_enter Try.func21, Try.ntmps21
  go_wp2_with fail
  go_loopg [4, 5, 6] N (fun k v4 v5 v6 wr => ∃ (j : Nat) (d rest : List Nd), rest.length = k ∧ d.length = j ∧ j + k = N ∧ v4 = .int .i64 (ncL d : Int) ∧ v5 = .int .i64 (drL d : Int) ∧ v6 = .int .i64 (j : Int) ∧ Hid (ns = d ++ rest) ∧ Hid (Below w.heap.size w wr))
  case atStart => exact ⟨0, [], ns, HN.out.symm, rfl, by omega, rfl, rfl, rfl, hide rfl, hide (Below.refl _ _)⟩
  case round =>
    obtain ⟨j, d, rest, rfl, hdj, hjk, rfl, rfl, rfl, HD, HB⟩ := hrel
    match rest, hjk, HD with
    | [], hjk, HD =>
      have e1 : d = ns := by
        have := HD.out
        rw [List.append_nil] at this
        exact this.symm
      simp only [List.length_nil, Nat.add_zero] at hjk
      subst hjk
      subst e1
      clear HD hdj
      go_wp2_with fail
      go_ret2
      exact ⟨rfl, HB.out⟩
    | nd :: rest, hjk, HD =>
      have hjN : j < N := by simp only [List.length_cons] at hjk; omega
      have hge : ns[j]? = some nd := by
        rw [HD.out, List.getElem?_append_right (by omega), hdj, Nat.sub_self]
        rfl
      obtain ⟨g, off, ap, am, ac, kp, km, kc, hp, x0, x1, x2, x3, -, -, hkk⟩ := HNODE.out j nd hge
      subst hp
      have x0 := cell_keep x0 HB.out
      have x3 := cell_keep x3 HB.out
      have hc : ncL ns = ncL d + (ncN nd + ncL rest) := by
        rw [HD.out, ncL_app]
        rfl
      have hkn := ncN_kids nd
      have hdp := drL_nc nd.kids
      have hdd := drL_nc d
      have HCK := hide (HIH.out wr (.slice kp km kc) nd.kids (hkk.below HB.out) (by omega))
      have HE4 : Hid ((ncL (d ++ [nd]) : Int) = (ncL d : Int) + 1 + (ncL nd.kids : Int)) := hide (by
        have : ncL (d ++ [nd]) = ncL d + (ncN nd + 0) := by rw [ncL_app]; rfl
        omega)
      have HE5 : Hid (drL (d ++ [nd]) = max (drL d) (if nd.name = [] then 0 else drL nd.kids + 1)) := hide (by
        rw [drL_app, ← drN_kids]
        simp [drL])
      obtain ⟨XN, hXN⟩ : ∃ X : ByteArray, X = ⟨nd.name.toArray⟩ := ⟨_, rfl⟩
      rw [← hXN] at x0
      have q0 : XN.toList.isEmpty = decide (nd.name = []) := by rw [hXN]; exact nm_empty _
      have HD2 : Hid (ns = (d ++ [nd]) ++ rest) := hide (by rw [HD.out]; simp)
      have hjk2 : j + (rest.length + 1) = N := hjk
      have hdj2 : (d ++ [nd]).length = j + 1 := by simp [hdj]
      obtain ⟨S, hS⟩ : ∃ S, S = ncL d := ⟨_, rfl⟩
      obtain ⟨D, hD⟩ : ∃ D, D = drL d := ⟨_, rfl⟩
      obtain ⟨K, hK⟩ : ∃ K, K = ncL nd.kids := ⟨_, rfl⟩
      obtain ⟨E, hE⟩ : ∃ E, E = drL nd.kids := ⟨_, rfl⟩
      rw [← hS, ← hD]
      rw [← hK, ← hE] at HCK
      rw [← hS, ← hK] at HE4
      rw [← hD, ← hE] at HE5
      have hKb : K ≤ 1000000000 := by omega
      have hEb : E ≤ 1000000000 := by omega
      have hSb : S ≤ 1000000000 := by omega
      have hDb : D ≤ 1000000000 := by omega
      have hjb : j ≤ 1000000000 := by omega
      clear hge hkk HD hXN hjk hdj hc hkn hdp hdd hS hD hK hE x1 x2 HNODE HIH
      go_wp2_with fail
      refine HCK.out.mono ?_
      rintro e w3 ⟨rfl, hb3⟩
      have x0 := cell_keep x0 hb3
      have HB3 := hide (bel2 HB.out hb3)
      clear hb3 HCK HB x3
      by_cases hnm : nd.name = []
      · rw [decide_eq_true hnm] at q0
        rw [if_pos hnm] at HE5
        clear hnm
        go_wp2_with fail
        go_roundg rest.length
        case measure => simp only [List.length_cons]; omega
        case rel =>
          refine ⟨j + 1, d ++ [nd], rest, rfl, hdj2, by omega, ?_, ?_, by first | rfl | simp, HD2, HB3⟩
          · rw [HE4.out]
          · rw [HE5.out]
            congr 1
            omega
      · rw [decide_eq_false hnm] at q0
        rw [if_neg hnm] at HE5
        clear hnm
        go_wp2_with fail
        go_roundg rest.length
        case measure => simp only [List.length_cons]; omega
        case rel =>
          refine ⟨j + 1, d ++ [nd], rest, rfl, hdj2, by omega, ?_, ?_, by first | rfl | simp, HD2, HB3⟩
          · rw [HE4.out]
          · rw [HE5.out]
            congr 1
            omega
end Go.Proofs.Ytholfdfjapgfbaa
