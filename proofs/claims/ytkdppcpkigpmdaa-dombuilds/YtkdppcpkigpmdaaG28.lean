/-
  dom.Size.
-/
import Derived.Test.YtkdppcpkigpmdaaG27
namespace Utf1
mutual
/-- How many elements stand within one another. -/
def deepN : Nd → Nat
  | .mk n _ _ k => deepL k + (if n = [] then 0 else 1)
def deepL : List Nd → Nat
  | [] => 0
  | n :: r => max (deepN n) (deepL r)
end
theorem deepN_kids (n : Nd) : deepN n = deepL n.kids + (if n.name = [] then 0 else 1) := by
  cases n
  rw [deepN]
  rfl
theorem deepL_app : ∀ a b : List Nd, deepL (a ++ b) = max (deepL a) (deepL b)
  | [], b => by simp [deepL]
  | n :: a, b => by
    rw [List.cons_append, deepL, deepL, deepL_app a b]
    omega
mutual
theorem deepN_cnt : ∀ n : Nd, deepN n ≤ cntN n
  | .mk n a t k => by
    rw [deepN, cntN]
    have := deepL_cnt k
    split <;> omega
theorem deepL_cnt : ∀ l : List Nd, deepL l ≤ cntL l
  | [] => Nat.le_refl _
  | n :: r => by
    rw [deepL, cntL]
    have := deepN_cnt n
    have := deepL_cnt r
    omega
end
end Utf1
namespace Go.Proofs.Ytkdppcpkigpmdaa
open Go.RowKit
open Utf1

/-- What is read of a node of a row. -/
theorem kat_node {w : World} {base : Nat} {v : Value} {ns : List Nd} {fp : List Nat} (h : KAt w base v ns fp) : ∃ p c, v = .slice p ns.length c ∧ ∀ i nd, ns[i]? = some nd → ∃ g ap am ac kp km kc f, p = some ⟨g, 0, none⟩ ∧ w.cell? ⟨g, i * 4, none⟩ = some (.string ⟨nd.name.toArray⟩) ∧ w.cell? ⟨g, i * 4 + 1, none⟩ = some (.slice ap am ac) ∧ w.cell? ⟨g, i * 4 + 2, none⟩ = some (.string ⟨nd.text.toArray⟩) ∧ w.cell? ⟨g, i * 4 + 3, none⟩ = some (.slice kp km kc) ∧ KAt w base (.slice kp km kc) nd.kids f ∧ w.ownsRow base 71 2 (.slice ap am ac) nd.attrs.length (attrCells nd.attrs) := by
  obtain ⟨l, f, rfl, rfl, hro, hall⟩ := kat_inv h
  obtain ⟨p, c, rfl⟩ := own_len hro
  refine ⟨p, c, by rw [List.length_map], ?_⟩
  intro i nd hi
  rw [List.getElem?_map] at hi
  cases hp : l[i]? with
  | none => rw [hp] at hi; cases hi
  | some q =>
    rw [hp] at hi
    have e : q.1 = nd := by simpa using hi
    have hil : i < l.length := (List.getElem?_eq_some_iff.1 hp).1
    obtain ⟨g, cap, e2, hcell⟩ := own_at hro (by omega)
    cases e2
    have hd : l = l.take i ++ q :: l.drop (i + 1) := by
      have h1 := List.take_append_drop i l
      rw [← List.getElem_cons_drop hil, (List.getElem?_eq_some_iff.1 hp).2] at h1
      exact h1.symm
    rw [hd] at hall
    obtain ⟨fa, fb, _, _, h2⟩ := kall_split hall
    obtain ⟨nd', av, kv⟩ := q
    subst e
    generalize hz : (nd', av, kv) :: l.drop (i + 1) = z at h2
    cases h2 with
    | nil => cases hz
    | cons n2 av2 kv2 l2 f2 fps2 ha2 hk2 hl2 =>
      cases hz
      obtain ⟨ap, am, ac, rfl⟩ := own_slice ha2
      obtain ⟨k, fk, _, _, hrk, _⟩ := kat_inv hk2
      obtain ⟨kp, km, kc, rfl⟩ := own_slice hrk
      have hat := fun j hj => (hcell (i * 4 + j) (by omega)).trans (ndCells_at l i _ hp j hj)
      exact ⟨g, ap, am, ac, kp, km, kc, f2, rfl, hat 0 (by decide), hat 1 (by decide), hat 2 (by decide), hat 3 (by decide), hk2, ha2⟩

set_option maxRecDepth 100000 in
set_option maxHeartbeats 8000000 in
theorem size_st (w0 : World) (base : Nat) : ∀ (M : Nat) (w : World) (v : Value) (ns : List Nd) (fp : List Nat), cntL ns ≤ M → M ≤ 1000000000 → KAt w0 base v ns fp → Below w0.heap.size w0 w →
    Calls Try.prog 18 #[v] w fun e w' => e = .returned (.tuple #[.int .i64 (cntL ns : Int), .int .i64 (deepL ns : Int)]) ∧ Below w.heap.size w w' := by
  intro M
  induction M using Nat.strongRecOn with
  | _ M ih =>
  intro w v ns fp hM hM2 hk hb
  obtain ⟨p, c, rfl, hnode⟩ := kat_node hk
  have HNODE := hide hnode
  have HBW := hide hb
  have HIH := hide ih
  have hlc := len_cnt ns
  obtain ⟨N, hN⟩ : ∃ N, N = ns.length := ⟨_, rfl⟩
  rw [← hN] at hlc ⊢
  have HN := hide hN
  clear hnode hb hk ih hN
  go_enter Try.func18, Try.ntmps18
  go_wp2_with fail
  go_loopg [4, 5, 14] N (fun k v4 v5 v14 wr => ∃ (j : Nat) (d rest : List Nd), rest.length = k ∧ d.length = j ∧ j + k = N ∧ v4 = .int .i64 ((N + cntL d - j : Nat) : Int) ∧ v5 = .int .i64 (deepL d : Int) ∧ v14 = .int .i64 (j : Int) ∧ Hid (ns = d ++ rest) ∧ Hid (Below w.heap.size w wr))
  case atStart => exact ⟨0, [], ns, HN.out.symm, rfl, by omega, rfl, rfl, rfl, hide rfl, hide (Below.refl _ _)⟩
  case round =>
    obtain ⟨j, d, rest, rfl, hdj, hjk, rfl, rfl, rfl, HD, HB⟩ := hrel
    have hcd := len_cnt d
    match rest, hjk, HD with
    | [], hjk, HD =>
      have e1 : N + cntL d - j = cntL ns := by
        have := HD.out
        rw [List.append_nil] at this
        rw [this]
        simp only [List.length_nil] at hjk
        omega
      have e2 : deepL d = deepL ns := by rw [HD.out, List.append_nil]
      simp only [List.length_nil, Nat.add_zero] at hjk
      rw [e1, e2]
      subst hjk
      clear e1 e2 HD hcd hdj
      go_wp2_with fail
      try rw [Exit.noGoto_ret]
      go_ret2
      exact ⟨rfl, HB.out⟩
    | nd :: rest, hjk, HD =>
      have hjN : j < N := by simp only [List.length_cons] at hjk; omega
      have hge : ns[j]? = some nd := by
        rw [HD.out, List.getElem?_append_right (by omega), hdj, Nat.sub_self]
        rfl
      obtain ⟨g, ap, am, ac, kp, km, kc, f, hp, x0, x1, x2, x3, hkk, -⟩ := HNODE.out j nd hge
      subst hp
      have hbr := HBW.out.trans (HB.out.mono HBW.out.size)
      have x0 := cell_keep x0 hbr
      have x1 := cell_keep x1 hbr
      have x2 := cell_keep x2 hbr
      have x3 := cell_keep x3 hbr
      have hc : cntL ns = cntL d + (cntN nd + cntL rest) := by
        rw [HD.out, cntL_app]
        rfl
      have hkn := cntN_kids nd
      have hdp := deepL_cnt nd.kids
      have hlr := len_cnt rest
      have hdd := deepL_cnt d
      have hdk := deepN_kids nd
      have HCK := hide (fun wx (hx : Below w0.heap.size w0 wx) => HIH.out (cntL nd.kids) (by omega) wx (.slice kp km kc) nd.kids f (Nat.le_refl _) (by omega) hkk hx)
      have hcd2 : cntL (d ++ [nd]) = cntL d + cntN nd := by
        rw [cntL_app]
        rfl
      have hdd2 : deepL (d ++ [nd]) = max (deepL d) (deepN nd) := by
        rw [deepL_app]
        simp [deepL]
      obtain ⟨XN, hXN⟩ : ∃ X : ByteArray, X = ⟨nd.name.toArray⟩ := ⟨_, rfl⟩
      obtain ⟨XT, hXT⟩ : ∃ X : ByteArray, X = ⟨nd.text.toArray⟩ := ⟨_, rfl⟩
      rw [← hXN] at x0
      rw [← hXT] at x2
      have q0 : XN.toList.isEmpty = decide (nd.name = []) := by
        rw [ByteArray.toList_eq, hXN]
        show nd.name.isEmpty = _
        cases nd.name <;> simp
      obtain ⟨w2, hw2⟩ : ∃ w2, w2 = wr.alloc (.cells #[.string XN, .slice ap am ac, .string XT, .slice kp km kc] 40) := ⟨_, rfl⟩
      have hwsz : w0.heap.size ≤ wr.heap.size := hbr.size
      have hb2 : Below w0.heap.size w0 w2 := by rw [hw2]; exact hbr.alloc hwsz _
      have hbw2 : Below w.heap.size w w2 := by rw [hw2]; exact HB.out.alloc HB.out.size _
      have y0 : w2.cell? ⟨wr.heap.size, 0, none⟩ = some (.string XN) := by rw [hw2, new_cell]; rfl
      have y3 : w2.cell? ⟨wr.heap.size, 3, none⟩ = some (.slice kp km kc) := by rw [hw2, new_cell]; rfl
      have hlt2 : wr.heap.size < w2.heap.size := by rw [hw2]; simp
      have HB2 := hide hb2
      have HBW2 := hide hbw2
      have HD2 : Hid (ns = (d ++ [nd]) ++ rest) := hide (by rw [HD.out]; simp)
      have hjk2 : j + (rest.length + 1) = N := hjk
      clear hge hkk hbr HB HD hb2 hbw2 hXT hXN hjk
      obtain ⟨S, hS⟩ : ∃ S, S = N + cntL d - j := ⟨_, rfl⟩
      obtain ⟨D, hD⟩ : ∃ D, D = deepL d := ⟨_, rfl⟩
      obtain ⟨K, hK⟩ : ∃ K, K = cntL nd.kids := ⟨_, rfl⟩
      obtain ⟨E, hE⟩ : ∃ E, E = deepL nd.kids := ⟨_, rfl⟩
      rw [← hS, ← hD]
      rw [← hK, ← hE] at HCK
      have hKb : K ≤ 1000000000 := by omega
      have hEb : E ≤ 1000000000 := by omega
      have hSb : S ≤ 1000000000 := by omega
      have hDb : D ≤ 1000000000 := by omega
      have hSK : S + K ≤ 2000000000 := by omega
      have e4 : ((N + cntL (d ++ [nd]) - (j + 1) : Nat) : Int) = (S : Int) + (K : Int) := by omega
      have HE4 := hide e4
      have HE5 : Hid (deepL (d ++ [nd]) = max D (E + if nd.name = [] then 0 else 1)) := hide (by rw [hdd2, hdk, ← hE, ← hD])
      have hjb : j ≤ 1000000000 := by omega
      have hdj2 : (d ++ [nd]).length = j + 1 := by simp [hdj]
      have HJ2 := hide (And.intro hdj2 (show j + 1 + rest.length = N by omega))
      clear hS hD hK hE e4 hdd2 hdk hcd2 hkn hdp hlr hdd hc hcd hlc hdj hdj2 hjk2 hM
      go_upto_region 5 with fail
      rw [← hw2]
      clear hw2 x0 x1 x2 x3
      go_wp2_with fail
      refine (HCK.out w2 HB2.out).mono ?_
      rintro e w3 ⟨rfl, hb3⟩
      have y0 := cell_keep y0 hb3
      have HBW3 := hide (HBW2.out.trans (hb3.mono HBW2.out.size))
      clear hb3 HCK HB2 HBW2 y3
      by_cases hnm : nd.name = []
      · rw [decide_eq_true hnm] at q0
        rw [if_pos hnm] at HE5
        clear hnm
        go_wp2_with fail
        go_roundg rest.length
        case measure => simp only [List.length_cons]; omega
        case rel =>
          refine ⟨j + 1, d ++ [nd], rest, rfl, HJ2.out.1, HJ2.out.2, ?_, ?_, by first | rfl | simp, HD2, HBW3⟩
          · rw [HE4.out]
          · rw [HE5.out]
            congr 1
            omega
      · rw [decide_eq_false hnm] at q0
        rw [if_neg hnm] at HE5
        clear hnm
        go_wp2_with fail
        go_roundg rest.length
        case measure => simp only [List.length_cons]; omega
        case rel =>
          refine ⟨j + 1, d ++ [nd], rest, rfl, HJ2.out.1, HJ2.out.2, ?_, ?_, by first | rfl | simp, HD2, HBW3⟩
          · rw [HE4.out]
          · rw [HE5.out]
            congr 1
            omega
end Go.Proofs.Ytkdppcpkigpmdaa
