/-
  Trees that are read alone: what a slice of nodes holds; pages, weights, counts.
-/
import Derived.Test.YtholfdfjapgfbaaGreatDoorG3
import Derived.Deep.RegionWith
import Derived.Deep.Cut
import Derived.RegionTactic
import Derived.Laws.Rows
import Derived.Lib.AppendStr
import Derived.Lib.UnsafeStr
import Derived.WalkMore
import Derived.Test.YtholfdfjapgfbaaGreatDoorM5
import Derived.Test.YtholfdfjapgfbaaGreatDoorP7
import Derived.Test.YtholfdfjapgfbaaGreatDoorBB
import Derived.Maps.Own
import Derived.Maps.OwnOps
import Derived.Maps.Views
import Derived.Test.YtholfdfjapgfbaaGreatDoorG2
import Derived.Deep.CutRange

namespace Utf1
/-- An attribute, written. -/
def atH (kv : List UInt8 × List UInt8) : List UInt8 := [32] ++ kv.1 ++ [61, 34] ++ esc true kv.2 ++ [34]
def atsH : List (List UInt8 × List UInt8) → List UInt8
  | [] => []
  | p :: r => atH p ++ atsH r
mutual
/-- A node, written. -/
def htN : Nd → List UInt8
  | .mk n a t k => if n = [] then esc false t else [60] ++ n ++ atsH a ++ [62] ++ (if n ∈ voids then [] else htL k ++ ([60, 47] ++ n ++ [62]))
def htL : List Nd → List UInt8
  | [] => []
  | n :: r => htN n ++ htL r
end
/-- How much attributes, nodes weigh. -/
def waL : List (List UInt8 × List UInt8) → Nat
  | [] => 0
  | p :: r => 1 + p.1.length + p.2.length + waL r
mutual
def wsN : Nd → Nat
  | .mk n a t k => 1 + n.length + t.length + waL a + wsL k
def wsL : List Nd → Nat
  | [] => 0
  | n :: r => wsN n + wsL r
end
mutual
/-- How many nodes there are. -/
def ncN : Nd → Nat
  | .mk _ _ _ k => 1 + ncL k
def ncL : List Nd → Nat
  | [] => 0
  | n :: r => ncN n + ncL r
end
mutual
/-- How many elements stand within one another. -/
def dpN : Nd → Nat
  | .mk n _ _ k => dpL k + (if n = [] then 0 else 1)
def dpL : List Nd → Nat
  | [] => 0
  | n :: r => max (dpN n) (dpL r)
end
theorem htN_kids (n : Nd) : htN n = if n.name = [] then esc false n.text else [60] ++ n.name ++ atsH n.attrs ++ [62] ++ (if n.name ∈ voids then [] else htL n.kids ++ ([60, 47] ++ n.name ++ [62])) := by
  cases n
  rw [htN]
  rfl
theorem wsN_kids (n : Nd) : wsN n = 1 + n.name.length + n.text.length + waL n.attrs + wsL n.kids := by
  cases n
  rw [wsN]
  rfl
theorem ncN_kids (n : Nd) : ncN n = 1 + ncL n.kids := by
  cases n
  rw [ncN]
  rfl
theorem dpN_kids (n : Nd) : dpN n = dpL n.kids + (if n.name = [] then 0 else 1) := by
  cases n
  rw [dpN]
  rfl
theorem htL_app : ∀ a b : List Nd, htL (a ++ b) = htL a ++ htL b
  | [], b => by simp [htL]
  | n :: a, b => by rw [List.cons_append, htL, htL, htL_app a b, List.append_assoc]
theorem wsL_app : ∀ a b : List Nd, wsL (a ++ b) = wsL a + wsL b
  | [], b => by simp [wsL]
  | n :: a, b => by
    rw [List.cons_append, wsL, wsL, wsL_app a b]
    omega
theorem ncL_app : ∀ a b : List Nd, ncL (a ++ b) = ncL a + ncL b
  | [], b => by simp [ncL]
  | n :: a, b => by
    rw [List.cons_append, ncL, ncL, ncL_app a b]
    omega
theorem dpL_app : ∀ a b : List Nd, dpL (a ++ b) = max (dpL a) (dpL b)
  | [], b => by simp [dpL]
  | n :: a, b => by
    rw [List.cons_append, dpL, dpL, dpL_app a b]
    omega
theorem atsH_app : ∀ a b, atsH (a ++ b) = atsH a ++ atsH b
  | [], b => by simp [atsH]
  | n :: a, b => by rw [List.cons_append, atsH, atsH, atsH_app a b, List.append_assoc]
theorem waL_app : ∀ a b, waL (a ++ b) = waL a + waL b
  | [], b => by simp [waL]
  | n :: a, b => by
    rw [List.cons_append, waL, waL, waL_app a b]
    omega
theorem nc_len : ∀ l : List Nd, l.length ≤ ncL l
  | [] => Nat.le_refl _
  | n :: r => by
    rw [ncL, ncN_kids, List.length_cons]
    have := nc_len r
    omega
theorem wa_len : ∀ l, List.length l ≤ waL l
  | [] => Nat.le_refl _
  | n :: r => by
    rw [waL, List.length_cons]
    have := wa_len r
    omega
theorem atH_len (p) : (atH p).length ≤ 6 * (1 + p.1.length + p.2.length) := by
  have := (esc_lens true p.2).2
  simp only [atH, List.length_append, List.length_cons, List.length_nil]
  omega
theorem atsH_len : ∀ l, (atsH l).length ≤ 6 * waL l
  | [] => Nat.le_refl _
  | p :: r => by
    rw [atsH, waL, List.length_append]
    have := atsH_len r
    have := atH_len p
    omega
mutual
theorem ncN_ws : ∀ n : Nd, ncN n ≤ wsN n
  | .mk n a t k => by
    rw [ncN, wsN]
    have := ncL_ws k
    omega
theorem ncL_ws : ∀ l : List Nd, ncL l ≤ wsL l
  | [] => Nat.le_refl _
  | n :: r => by
    rw [ncL, wsL]
    have := ncN_ws n
    have := ncL_ws r
    omega
end
mutual
theorem dpN_nc : ∀ n : Nd, dpN n ≤ ncN n
  | .mk n a t k => by
    rw [dpN, ncN]
    have := dpL_nc k
    split <;> omega
theorem dpL_nc : ∀ l : List Nd, dpL l ≤ ncL l
  | [] => Nat.le_refl _
  | n :: r => by
    rw [dpL, ncL]
    have := dpN_nc n
    have := dpL_nc r
    omega
end
mutual
theorem htN_len : ∀ n : Nd, (htN n).length ≤ 6 * wsN n
  | .mk n a t k => by
    rw [htN, wsN]
    have h1 := htL_len k
    have h2 := atsH_len a
    have h3 := (esc_lens false t).2
    split
    · omega
    · split
      · simp only [List.length_append, List.length_cons, List.length_nil]
        omega
      · simp only [List.length_append, List.length_cons, List.length_nil]
        omega
theorem htL_len : ∀ l : List Nd, (htL l).length ≤ 6 * wsL l
  | [] => Nat.le_refl _
  | n :: r => by
    rw [htL, wsL, List.length_append]
    have := htN_len n
    have := htL_len r
    omega
end
end Utf1
namespace Go.Proofs.YtholfdfjapgfbaaGreatDoor.Dm
open Go.RowKit
open Utf1

/-- A slice holds attributes. -/
def ARow (w : World) (p : Option Addr) (m : Nat) (a : List (List UInt8 × List UInt8)) : Prop := (m = a.length ∧ m ≤ 9223372036854775807) ∧ ∀ i kv, a[i]? = some kv → ∃ b off, p = some ⟨b, off, none⟩ ∧ w.cell? ⟨b, off + i * 2, none⟩ = some (.string ⟨kv.1.toArray⟩) ∧ w.cell? ⟨b, off + i * 2 + 1, none⟩ = some (.string ⟨kv.2.toArray⟩) ∧ kv.1.length ≤ 281474976710656 ∧ kv.2.length ≤ 281474976710656
/-- A slice holds nodes, so many within one another at most. -/
def NAtD (w : World) : Nat → Value → List Nd → Prop
  | 0, _, _ => False
  | d + 1, v, ns => ∃ p c, v = .slice p ns.length c ∧ ns.length ≤ 9223372036854775807 ∧ ∀ i nd, ns[i]? = some nd → ∃ g off ap am ac kp km kc, p = some ⟨g, off, none⟩ ∧ w.cell? ⟨g, off + i * 4, none⟩ = some (.string ⟨nd.name.toArray⟩) ∧ w.cell? ⟨g, off + i * 4 + 1, none⟩ = some (.slice ap am ac) ∧ w.cell? ⟨g, off + i * 4 + 2, none⟩ = some (.string ⟨nd.text.toArray⟩) ∧ w.cell? ⟨g, off + i * 4 + 3, none⟩ = some (.slice kp km kc) ∧ (nd.name.length ≤ 281474976710656 ∧ nd.text.length ≤ 281474976710656) ∧ ARow w ap am nd.attrs ∧ NAtD w d (.slice kp km kc) nd.kids
theorem ARow.below {w w' : World} {p : Option Addr} {m : Nat} {a : List (List UInt8 × List UInt8)} (h : ARow w p m a) (hb : Below w.heap.size w w') : ARow w' p m a := by
  refine ⟨h.1, ?_⟩
  intro i kv hi
  obtain ⟨b, off, hp, x0, x1, h2⟩ := h.2 i kv hi
  exact ⟨b, off, hp, cell_keep x0 hb, cell_keep x1 hb, h2⟩
theorem NAtD.below {w w' : World} (hb : Below w.heap.size w w') : ∀ {d : Nat} {v : Value} {ns : List Nd}, NAtD w d v ns → NAtD w' d v ns
  | 0, _, _, h => h.elim
  | d + 1, v, ns, h => by
    obtain ⟨p, c, hv, hl, hn⟩ := h
    refine ⟨p, c, hv, hl, ?_⟩
    intro i nd hi
    obtain ⟨g, off, ap, am, ac, kp, km, kc, hp, x0, x1, x2, x3, hs, ha, hk⟩ := hn i nd hi
    exact ⟨g, off, ap, am, ac, kp, km, kc, hp, cell_keep x0 hb, cell_keep x1 hb, cell_keep x2 hb, cell_keep x3 hb, hs, ha.below hb, NAtD.below hb hk⟩
theorem NAtD.more {w : World} : ∀ {d d' : Nat} {v : Value} {ns : List Nd}, NAtD w d v ns → d ≤ d' → NAtD w d' v ns
  | 0, _, _, _, h, _ => h.elim
  | d + 1, 0, _, _, _, hd => by omega
  | d + 1, d' + 1, v, ns, h, hd => by
    obtain ⟨p, c, hv, hl, hn⟩ := h
    refine ⟨p, c, hv, hl, ?_⟩
    intro i nd hi
    obtain ⟨g, off, ap, am, ac, kp, km, kc, hp, x0, x1, x2, x3, hs, ha, hk⟩ := hn i nd hi
    exact ⟨g, off, ap, am, ac, kp, km, kc, hp, x0, x1, x2, x3, hs, ha, NAtD.more hk (by omega)⟩
/-- A slice holds nodes. -/
def NAt (w : World) (v : Value) (ns : List Nd) : Prop := ∃ d, NAtD w d v ns
theorem NAt.below {w w' : World} {v : Value} {ns : List Nd} (h : NAt w v ns) (hb : Below w.heap.size w w') : NAt w' v ns := by
  obtain ⟨d, h⟩ := h
  exact ⟨d, h.below hb⟩
theorem nat_nil (w : World) : NAt w (.slice none 0 0) [] := ⟨1, none, 0, rfl, by decide, fun i nd h => by simp at h⟩
theorem arow_nil (w : World) : ARow w none 0 [] := ⟨⟨rfl, by decide⟩, fun i kv h => by simp at h⟩
theorem nm_empty (l : List UInt8) : (⟨l.toArray⟩ : ByteArray).toList.isEmpty = decide (l = []) := by
  rw [ByteArray.toList_eq]
  show l.isEmpty = _
  cases l <;> simp
end Go.Proofs.YtholfdfjapgfbaaGreatDoor.Dm

/-
  dom.Size at a tree that is read alone.
-/
namespace Go.Proofs.YtholfdfjapgfbaaGreatDoor.Dm
open Go.RowKit
open Utf1

set_option maxRecDepth 100000 in
set_option maxHeartbeats 8000000 in
theorem size_nst : ∀ (D : Nat) (w : World) (v : Value) (ns : List Nd), NAtD w D v ns → ncL ns ≤ 1000000000 →
    Calls Tryz.prog 14 #[v] w fun e w' => e = .returned (.tuple #[.int .i64 (ncL ns : Int), .int .i64 (dpL ns : Int)]) ∧ Below w.heap.size w w' := by
  intro D
  induction D with
  | zero => intro w v ns h; exact h.elim
  | succ D0 ih =>
  intro w v ns hk hM
  obtain ⟨p, c, rfl, -, hnode⟩ := hk
  have HNODE := hide hnode
  have HIH := hide ih
  have hlc := nc_len ns
  obtain ⟨N, hN⟩ : ∃ N, N = ns.length := ⟨_, rfl⟩
  rw [← hN] at hlc ⊢
  have HN := hide hN
  clear hnode ih hN
  go_enter Tryz.func14, Tryz.ntmps14
  go_wp2_with fail
  go_loopg [4, 5, 14] N (fun k v4 v5 v14 wr => ∃ (j : Nat) (d rest : List Nd), rest.length = k ∧ d.length = j ∧ j + k = N ∧ v4 = .int .i64 ((N + ncL d - j : Nat) : Int) ∧ v5 = .int .i64 (dpL d : Int) ∧ v14 = .int .i64 (j : Int) ∧ Hid (ns = d ++ rest) ∧ Hid (Below w.heap.size w wr))
  case atStart => exact ⟨0, [], ns, HN.out.symm, rfl, by omega, rfl, rfl, rfl, hide rfl, hide (Below.refl _ _)⟩
  case round =>
    obtain ⟨j, d, rest, rfl, hdj, hjk, rfl, rfl, rfl, HD, HB⟩ := hrel
    have hcd := nc_len d
    match rest, hjk, HD with
    | [], hjk, HD =>
      have e1 : N + ncL d - j = ncL ns := by
        have := HD.out
        rw [List.append_nil] at this
        rw [this]
        simp only [List.length_nil] at hjk
        omega
      have e2 : dpL d = dpL ns := by rw [HD.out, List.append_nil]
      simp only [List.length_nil, Nat.add_zero] at hjk
      rw [e1, e2]
      subst hjk
      clear e1 e2 HD hcd hdj
      go_wp2_with fail
      try rw [Exit.noGoto_ret]
      go_ret2
      exact ⟨rfl, HB.out⟩
    | nd :: rest, hjk, HD =>
      have hjN : j < N := by simp only [List.length_cons] at hjk; omega
      have hge : ns[j]? = some nd := by
        rw [HD.out, List.getElem?_append_right (by omega), hdj, Nat.sub_self]
        rfl
      obtain ⟨g, off, ap, am, ac, kp, km, kc, hp, x0, x1, x2, x3, -, -, hkk⟩ := HNODE.out j nd hge
      subst hp
      have hbr := HB.out
      have x0 := cell_keep x0 hbr
      have x1 := cell_keep x1 hbr
      have x2 := cell_keep x2 hbr
      have x3 := cell_keep x3 hbr
      have hc : ncL ns = ncL d + (ncN nd + ncL rest) := by
        rw [HD.out, ncL_app]
        rfl
      have hkn := ncN_kids nd
      have hdp := dpL_nc nd.kids
      have hlr := nc_len rest
      have hdd := dpL_nc d
      have hdk := dpN_kids nd
      have HCK := hide (fun wx (hx : Below w.heap.size w wx) => HIH.out wx (.slice kp km kc) nd.kids (hkk.below hx) (by omega))
      have hcd2 : ncL (d ++ [nd]) = ncL d + ncN nd := by
        rw [ncL_app]
        rfl
      have hdd2 : dpL (d ++ [nd]) = max (dpL d) (dpN nd) := by
        rw [dpL_app]
        simp [dpL]
      obtain ⟨XN, hXN⟩ : ∃ X : ByteArray, X = ⟨nd.name.toArray⟩ := ⟨_, rfl⟩
      obtain ⟨XT, hXT⟩ : ∃ X : ByteArray, X = ⟨nd.text.toArray⟩ := ⟨_, rfl⟩
      rw [← hXN] at x0
      rw [← hXT] at x2
      have q0 : XN.toList.isEmpty = decide (nd.name = []) := by
        rw [ByteArray.toList_eq, hXN]
        show nd.name.isEmpty = _
        cases nd.name <;> simp
      obtain ⟨w2, hw2⟩ : ∃ w2, w2 = wr.alloc (.cells #[.string XN, .slice ap am ac, .string XT, .slice kp km kc] 42) := ⟨_, rfl⟩
      have hwsz : w.heap.size ≤ wr.heap.size := hbr.size
      have hbw2 : Below w.heap.size w w2 := by rw [hw2]; exact HB.out.alloc HB.out.size _
      have y0 : w2.cell? ⟨wr.heap.size, 0, none⟩ = some (.string XN) := by rw [hw2, new_cell]; rfl
      have y3 : w2.cell? ⟨wr.heap.size, 3, none⟩ = some (.slice kp km kc) := by rw [hw2, new_cell]; rfl
      have hlt2 : wr.heap.size < w2.heap.size := by rw [hw2]; simp
      have HBW2 := hide hbw2
      have HD2 : Hid (ns = (d ++ [nd]) ++ rest) := hide (by rw [HD.out]; simp)
      have hjk2 : j + (rest.length + 1) = N := hjk
      clear hge hkk hbr HB HD hbw2 hXT hXN hjk
      obtain ⟨S, hS⟩ : ∃ S, S = N + ncL d - j := ⟨_, rfl⟩
      obtain ⟨D, hD⟩ : ∃ D, D = dpL d := ⟨_, rfl⟩
      obtain ⟨K, hK⟩ : ∃ K, K = ncL nd.kids := ⟨_, rfl⟩
      obtain ⟨E, hE⟩ : ∃ E, E = dpL nd.kids := ⟨_, rfl⟩
      rw [← hS, ← hD]
      rw [← hK, ← hE] at HCK
      have hKb : K ≤ 1000000000 := by omega
      have hEb : E ≤ 1000000000 := by omega
      have hSb : S ≤ 1000000000 := by omega
      have hDb : D ≤ 1000000000 := by omega
      have hSK : S + K ≤ 2000000000 := by omega
      have e4 : ((N + ncL (d ++ [nd]) - (j + 1) : Nat) : Int) = (S : Int) + (K : Int) := by omega
      have HE4 := hide e4
      have HE5 : Hid (dpL (d ++ [nd]) = max D (E + if nd.name = [] then 0 else 1)) := hide (by rw [hdd2, hdk, ← hE, ← hD])
      have hjb : j ≤ 1000000000 := by omega
      have hdj2 : (d ++ [nd]).length = j + 1 := by simp [hdj]
      have HJ2 := hide (And.intro hdj2 (show j + 1 + rest.length = N by omega))
      clear hS hD hK hE e4 hdd2 hdk hcd2 hkn hdp hlr hdd hc hcd hlc hdj hdj2 hjk2 hM
      go_upto_region 5 with fail
      rw [← hw2]
      clear hw2 x0 x1 x2 x3
      go_wp2_with fail
      refine (HCK.out w2 HBW2.out).mono ?_
      rintro e w3 ⟨rfl, hb3⟩
      have y0 := cell_keep y0 hb3
      have HBW3 := hide (HBW2.out.trans (hb3.mono HBW2.out.size))
      clear hb3 HCK HBW2 y3
      by_cases hnm : nd.name = []
      · rw [decide_eq_true hnm] at q0
        rw [if_pos hnm] at HE5
        clear hnm
        go_wp2_with fail
        go_roundg rest.length
        case measure => simp only [List.length_cons]; omega
        case rel =>
          refine ⟨j + 1, d ++ [nd], rest, rfl, HJ2.out.1, HJ2.out.2, ?_, ?_, by first | rfl | simp, HD2, HBW3⟩
          · rw [HE4.out]
          · rw [HE5.out]
            congr 1
            omega
      · rw [decide_eq_false hnm] at q0
        rw [if_neg hnm] at HE5
        clear hnm
        go_wp2_with fail
        go_roundg rest.length
        case measure => simp only [List.length_cons]; omega
        case rel =>
          refine ⟨j + 1, d ++ [nd], rest, rfl, HJ2.out.1, HJ2.out.2, ?_, ?_, by first | rfl | simp, HD2, HBW3⟩
          · rw [HE4.out]
          · rw [HE5.out]
            congr 1
            omega
end Go.Proofs.YtholfdfjapgfbaaGreatDoor.Dm

/-
  ser.HTML: what a tree's page is, node by node.
-/
namespace Go.Proofs.YtholfdfjapgfbaaGreatDoor.Dm
open Go.RowKit
open Utf1

theorem bat_keep {T e : TypeId} {B b : Nat} {p : Value} {bs : List Value} {w w' : World} (h : Lib.BuilderAtF T e B b p bs w) (hb : Below w.heap.size w w') : Lib.BuilderAtF T e B b p bs w' := by
  have hl := h.lt
  obtain ⟨h1, v, h2, h3, h4⟩ := h
  exact ⟨h1, v, (hb.block b hl).trans h2, h3.kept (row := none) (below_grown hb) (Classical.em _), h4⟩
/-- The page's builder. -/
def PB (w0 w : World) (acc : List UInt8) : Prop := Lib.IsBuilderF 51 5 w0.heap.size w0.heap.size (Lib.byteCells acc) w
theorem PB.keep {w0 w w' : World} {acc : List UInt8} (h : PB w0 w acc) (hb : Below w.heap.size w w') : PB w0 w' acc :=
  h.elim (fun x => .inl (bat_keep x hb)) (fun x => .inr (bat_keep x hb))
theorem PB.lt {w0 w : World} {acc : List UInt8} (h : PB w0 w acc) : w0.heap.size < w.heap.size := h.elim (fun x => x.lt) (fun x => x.lt)
/-- What writing does. -/
def WPost (w0 w : World) (acc x : List UInt8) (e : Ending) (w' : World) : Prop := e = .returned (.tuple #[]) ∧ PB w0 w' (acc ++ x) ∧ Below w0.heap.size w w' ∧ Lib.OthersKept 5 (some w0.heap.size) w w'
theorem kept_bel {w w' : World} {b : Option Nat} (h : Below w.heap.size w w') : Lib.OthersKept 5 b w w' := by
  intro k o hk _ _
  rw [h.block k (Array.getElem?_eq_some_iff.1 hk).1]
  exact hk
theorem ws_st (w0 w : World) (acc : List UInt8) (s : ByteArray) (hb : Below w0.heap.size w0 w) (hu : PB w0 w acc) (hl : acc.length + s.size ≤ 1000000000) :
    Calls Tryz.prog 54 #[.pointer (some ⟨w0.heap.size, 0, none⟩), .string s] w fun e w' => e = .returned (.tuple #[.int .i64 s.size, .nilIface]) ∧ PB w0 w' (acc ++ bl s) ∧ Below w0.heap.size w w' ∧ Lib.OthersKept 5 (some w0.heap.size) w w' := by
  refine (Tryz.Builder_WriteString_k w0.heap.size w0.heap.size _ s w hu (by rw [Lib.byteCells_length]; omega) hb.size).mono ?_
  rintro e w' ⟨rfl, h1, b1, k1⟩
  refine ⟨rfl, .inr ?_, b1, k1⟩
  have e : Lib.byteCells (acc ++ bl s) = Lib.byteCells acc ++ Lib.strCells s := by rw [Lib.byteCells_append]; rfl
  rw [e]
  exact h1
theorem kept_cell {w w' : World} {B b : Nat} {cs : Array Value} {t : TypeId} (hk : Lib.OthersKept 5 (some B) w w') (h : w.heap[b]? = some (.cells cs t (0, 0))) (hb : b ≠ B) (ht : t ≠ 5) : w'.heap[b]? = some (.cells cs t (0, 0)) :=
  hk _ _ h (by intro e; injection e with e; exact hb e) (by intro c fz e; injection e with _ e; exact ht e)
theorem new_block (w : World) (A : Array Value) (t : TypeId) : (w.alloc (.cells A t)).heap[w.heap.size]? = some (.cells A t (0, 0)) := by
  show (w.heap.push _)[w.heap.size]? = _
  simp

theorem partOf_text (w : World) (ap : Option Addr) (am ac : Nat) (XN XT : ByteArray) (kp : Option Addr) (km kc : Nat) (h : XN.toList.isEmpty = true) :
    Calls Tryz.prog 33 #[.agg #[.string XN, .slice ap am ac, .string XT, .slice kp km kc]] w fun e w' => e = .returned (.iface 99 (.agg #[.string XN, .slice ap am ac, .string XT, .slice kp km kc])) ∧ Below w.heap.size w w' := by
  go_enter Tryz.func33, Tryz.ntmps33
  go_wp2_with fail
  go_ret
  exact ⟨rfl, (Below.refl _ _).alloc (Nat.le_refl _) _⟩
theorem partOf_elem (w : World) (ap : Option Addr) (am ac : Nat) (XN XT : ByteArray) (kp : Option Addr) (km kc : Nat) (h : XN.toList.isEmpty = false) :
    Calls Tryz.prog 33 #[.agg #[.string XN, .slice ap am ac, .string XT, .slice kp km kc]] w fun e w' => e = .returned (.iface 100 (.agg #[.string XN, .slice ap am ac, .string XT, .slice kp km kc])) ∧ Below w.heap.size w w' := by
  go_enter Tryz.func33, Tryz.ntmps33
  go_wp2_with fail
  go_ret
  exact ⟨rfl, (Below.refl _ _).alloc (Nat.le_refl _) _⟩

set_option maxRecDepth 100000 in
set_option maxHeartbeats 8000000 in
theorem text_write (w0 w : World) (ap : Option Addr) (am ac : Nat) (XN XT : ByteArray) (kp : Option Addr) (km kc : Nat) (acc : List UInt8) (hb : Below w0.heap.size w0 w) (hu : PB w0 w acc) (hl : acc.length + (esc false (bl XT)).length ≤ 1000000000) :
    Calls Tryz.prog 122 #[.agg #[.string XN, .slice ap am ac, .string XT, .slice kp km kc], .pointer (some ⟨w0.heap.size, 0, none⟩)] w (WPost w0 w acc (esc false (bl XT))) := by
  have hxl := (esc_lens false (bl XT)).1
  rw [bl_len] at hxl
  obtain ⟨w1, hw1⟩ : ∃ w1, w1 = w.alloc (.cells #[.string XN, .slice ap am ac, .string XT, .slice kp km kc] 99) := ⟨_, rfl⟩
  have hb1 : Below w.heap.size w w1 := by rw [hw1]; exact (Below.refl _ _).alloc (Nat.le_refl _) _
  have y2 : w1.cell? ⟨w.heap.size, 2, none⟩ = some (.string XT) := by rw [hw1, new_cell]; rfl
  have HE := hide (escape_any XT false w1 (by omega))
  have HB1 := hide hb1
  have HU1 := hide (hu.keep hb1)
  have HB := hide hb
  have HL := hide hl
  clear hb1 hu hb hl hxl
  go_enter Tryz.func122, Tryz.ntmps122
  go_upto_region 1 with fail
  rw [← hw1]
  clear hw1
  go_wp2_with fail
  refine HE.out.mono ?_
  rintro e w2 ⟨rfl, hb2⟩
  have HB2 := hide (bel2 HB1.out hb2)
  have HW := hide (ws_st w0 w2 acc ⟨(esc false (bl XT)).toArray⟩ (HB.out.trans (HB2.out.mono HB.out.size)) (HU1.out.keep hb2) HL.out)
  clear hb2 HE HB1 HU1
  go_wp2_with fail
  refine HW.out.mono ?_
  rintro e w3 ⟨rfl, h1, h2, h3⟩
  have HR := hide (And.intro h1 (And.intro h2 h3))
  clear h1 h2 h3 HW
  go_wp2_with fail
  go_end0
  exact ⟨rfl, HR.out.1, (HB2.out.mono HB.out.size).trans HR.out.2.1, (kept_bel HB2.out).trans HR.out.2.2⟩

set_option maxRecDepth 100000 in
set_option maxHeartbeats 8000000 in
theorem elem_write (w0 w : World) (nd : Nd) (ap : Option Addr) (am ac : Nat) (XN XT : ByteArray) (kp : Option Addr) (km kc : Nat) (acc : List UInt8) (hXN : XN = ⟨nd.name.toArray⟩) (hne : nd.name ≠ [])
    (hb : Below w0.heap.size w0 w) (hu : PB w0 w acc) (ha : ARow w0 ap am nd.attrs)
    (hkid : ∀ wx ac2, Below w0.heap.size w0 wx → PB w0 wx ac2 → ac2.length + (htL nd.kids).length ≤ 1000000000 → Calls Tryz.prog 28 #[.pointer (some ⟨w0.heap.size, 0, none⟩), .slice kp km kc] wx (WPost w0 wx ac2 (htL nd.kids)))
    (hl : acc.length + (htN nd).length ≤ 1000000000) :
    Calls Tryz.prog 126 #[.agg #[.string XN, .slice ap am ac, .string XT, .slice kp km kc], .pointer (some ⟨w0.heap.size, 0, none⟩)] w (WPost w0 w acc (htN nd)) := by
  have hN : bl XN = nd.name := by rw [hXN]
  have hht := htN_kids nd
  rw [if_neg hne, ← hN] at hht
  have hXl : XN.size = nd.name.length := by rw [hXN]; rfl
  obtain ⟨ats, hats⟩ : ∃ ats, ats = nd.attrs := ⟨_, rfl⟩
  rw [← hats] at ha hht
  obtain ⟨kh, hkh⟩ : ∃ kh, kh = htL nd.kids := ⟨_, rfl⟩
  rw [← hkh] at hkid hht
  obtain ⟨w1, hw1⟩ : ∃ w1, w1 = w.alloc (.cells #[.string XN, .slice ap am ac, .string XT, .slice kp km kc] 100) := ⟨_, rfl⟩
  have hb1 : Below w.heap.size w w1 := by rw [hw1]; exact (Below.refl _ _).alloc (Nat.le_refl _) _
  have hbox : w1.heap[w.heap.size]? = some (.cells #[.string XN, .slice ap am ac, .string XT, .slice kp km kc] 100 (0, 0)) := by rw [hw1]; exact new_block _ _ _
  have hlt := hu.lt
  have hall : (htN nd).length = 2 + XN.size + (atsH ats).length + (if bl XN ∈ voids then [] else kh ++ ([60, 47] ++ bl XN ++ [62])).length := by
    rw [hht]
    simp only [List.length_append, List.length_cons, List.length_nil, bl_len]
    omega
  have y0 := tag_cell hbox 0 _ rfl
  have HBOX := hide hbox
  have HW1 := hide (ws_st w0 w1 acc (⟨#[60]⟩ ++ XN) (hb.trans (hb1.mono hb.size)) (hu.keep hb1) (by rw [ByteArray.size_append]; show _ + (1 + _) ≤ _; omega))
  have HB1 := hide hb1
  have HB := hide hb
  have HKID := hide hkid
  have HA := hide ha
  have HALL := hide hall
  have HHT := hide hht
  have HL := hide hl
  have hxs : XN.size ≤ 1000000000 := by omega
  have ham : am ≤ 9223372036854775807 := ha.1.2
  have HAM := hide ha.1.1
  clear hbox hb1 hb hu hkid ha hkh hats hXl hXN hN hne hall hht hl
  go_enter Tryz.func126, Tryz.ntmps126
  go_upto_region 1 with fail
  rw [← hw1]
  clear hw1
  go_wp2_with fail
  refine HW1.out.mono ?_
  rintro e w2 ⟨rfl, h1, h2, h3⟩
  have hbox2 := kept_cell h3 HBOX.out (by omega) (by decide)
  have y0 := tag_cell hbox2 0 _ rfl
  have y1 := tag_cell hbox2 1 _ rfl
  have HS2 : Hid (PB w0 w2 (acc ++ ([60] ++ bl XN)) ∧ Below w0.heap.size w w2 ∧ Lib.OthersKept 5 (some w0.heap.size) w w2) := hide ⟨by
    have e : bl (⟨#[60]⟩ ++ XN) = [60] ++ bl XN := bl_cat _ _
    rw [← e]
    exact h1, (HB1.out.mono HB.out.size).trans h2, (kept_bel HB1.out).trans h3⟩
  have HBOX2 := hide hbox2
  clear h1 h2 h3 hbox2 HBOX HW1 HB1
  go_wp2_with fail
  go_loopg [14] am (fun k v14 wr => ∃ (j : Nat) (d rest : List (List UInt8 × List UInt8)), rest.length = k ∧ d.length = j ∧ j + k = am ∧ v14 = .int .i64 (j : Int) ∧ Hid (ats = d ++ rest) ∧ Hid (PB w0 wr (acc ++ ([60] ++ bl XN ++ atsH d)) ∧ Below w0.heap.size w wr ∧ Lib.OthersKept 5 (some w0.heap.size) w wr ∧ wr.heap[w.heap.size]? = some (.cells #[.string XN, .slice ap am ac, .string XT, .slice kp km kc] 100 (0, 0))))
  case atStart => exact ⟨0, [], ats, HAM.out.symm, rfl, by omega, rfl, hide rfl, hide ⟨by rw [show atsH [] = [] from rfl, List.append_nil]; exact HS2.out.1, HS2.out.2.1, HS2.out.2.2, HBOX2.out⟩⟩
  case round =>
    obtain ⟨j, d, rest, rfl, hdj, hjk, rfl, HD, HS⟩ := hrel
    clear HS2 HBOX2 y0 y1
    match rest, hjk, HD with
    | [], hjk, HD =>
      have e1 : d = ats := by
        have := HD.out
        rw [List.append_nil] at this
        exact this.symm
      simp only [List.length_nil, Nat.add_zero] at hjk
      subst hjk
      subst e1
      clear HD hdj HA HAM
      have y0 := tag_cell HS.out.2.2.2 0 _ rfl
      have hlen := HALL.out
      have hlen2 := HL.out
      have HW3 := hide (ws_st w0 wr _ ⟨#[62]⟩ (HB.out.trans HS.out.2.1) HS.out.1 (by simp only [List.length_append, List.length_cons, List.length_nil, bl_len]; show _ + 1 ≤ _; omega))
      clear hlen hlen2
      go_wp2_with fail
      refine HW3.out.mono ?_
      rintro e w3 ⟨rfl, h1, h2, h3⟩
      have hbox3 := kept_cell h3 HS.out.2.2.2 (by omega) (by decide)
      have y0 := tag_cell hbox3 0 _ rfl
      have y3 := tag_cell hbox3 3 _ rfl
      have HS3 : Hid (PB w0 w3 (acc ++ ([60] ++ bl XN ++ atsH d) ++ [62]) ∧ Below w0.heap.size w w3 ∧ Lib.OthersKept 5 (some w0.heap.size) w w3) := hide ⟨h1, HS.out.2.1.trans h2, HS.out.2.2.1.trans h3⟩
      have HBOX3 := hide hbox3
      clear h1 h2 h3 hbox3 HW3 HS
      have HV := hide (void_any XN w3)
      by_cases hv : bl XN ∈ voids
      · rw [decide_eq_true hv] at HV
        have hht := HHT.out
        rw [if_pos hv, List.append_nil] at hht
        have HHT2 := hide hht
        clear hht HHT hv HKID HALL HL
        go_wp2_with fail
        refine HV.out.mono ?_
        rintro e w4 ⟨rfl, rfl⟩
        clear HV
        go_wp2_with fail
        try rw [Exit.noGoto_ret]
        go_end0
        refine ⟨rfl, ?_, HS3.out.2.1, HS3.out.2.2⟩
        rw [HHT2.out]
        have := HS3.out.1
        simp only [List.append_assoc] at this ⊢
        exact this
      · rw [decide_eq_false hv] at HV
        have hht := HHT.out
        rw [if_neg hv] at hht
        have hlen := HALL.out
        rw [if_neg hv] at hlen
        have HHT2 := hide hht
        have hlen2 := HL.out
        simp only [List.length_append, List.length_cons, List.length_nil, bl_len] at hlen
        have HK3 := hide (HKID.out w3 _ (HB.out.trans HS3.out.2.1) HS3.out.1 (by simp only [List.length_append, List.length_cons, List.length_nil, bl_len]; omega))
        have HLL : Hid ((acc ++ ([60] ++ bl XN ++ atsH d) ++ [62] ++ kh).length + (XN.size + 3) ≤ 1000000000) := hide (by simp only [List.length_append, List.length_cons, List.length_nil, bl_len]; omega)
        clear hht HHT hv HKID HALL HL hlen hlen2
        go_wp2_with fail
        refine HV.out.mono ?_
        rintro e w4 ⟨rfl, rfl⟩
        clear HV
        go_wp2_with fail
        refine HK3.out.mono ?_
        rintro e w5 ⟨rfl, h1, h2, h3⟩
        have hbox5 := kept_cell h3 HBOX3.out (by omega) (by decide)
        have y0 := tag_cell hbox5 0 _ rfl
        have HW5 := hide (ws_st w0 w5 _ (⟨#[60, 47]⟩ ++ XN ++ ⟨#[62]⟩) (HB.out.trans (HS3.out.2.1.trans h2)) h1 (by rw [ByteArray.size_append, ByteArray.size_append]; have := HLL.out; show _ + (2 + _ + 1) ≤ _; omega))
        have HS5 := hide (And.intro (HS3.out.2.1.trans h2) (HS3.out.2.2.trans h3))
        clear h1 h2 h3 hbox5 HK3 HS3 HBOX3 y3
        go_wp2_with fail
        refine HW5.out.mono ?_
        rintro e w6 ⟨rfl, h1, h2, h3⟩
        have HR : Hid (PB w0 w6 (acc ++ htN nd) ∧ Below w0.heap.size w w6 ∧ Lib.OthersKept 5 (some w0.heap.size) w w6) := hide ⟨by
          rw [HHT2.out]
          have e : bl (⟨#[60, 47]⟩ ++ XN ++ ⟨#[62]⟩) = [60, 47] ++ bl XN ++ [62] := by rw [bl_cat, bl_cat]
          rw [e] at h1
          simp only [List.append_assoc] at h1 ⊢
          exact h1, HS5.out.1.trans h2, HS5.out.2.trans h3⟩
        clear h1 h2 h3 HW5 HS5 HLL HHT2
        go_wp2_with fail
        try rw [Exit.noGoto_ret]
        go_end0
        exact ⟨rfl, HR.out⟩
    | kv :: rest, hjk, HD =>
      have hjN : j < am := by simp only [List.length_cons] at hjk; omega
      have hge : ats[j]? = some kv := by
        rw [HD.out, List.getElem?_append_right (by omega), hdj, Nat.sub_self]
        rfl
      obtain ⟨b, off, rfl, x0, x1, hk1, hk2⟩ := HA.out.2 j kv hge
      have x0 := cell_keep x0 (HB.out.trans HS.out.2.1)
      have x1 := cell_keep x1 (HB.out.trans HS.out.2.1)
      have hatl : (atsH ats).length = (atsH d).length + ((atH kv).length + (atsH rest).length) := by
        rw [HD.out, atsH_app, List.length_append, atsH, List.length_append]
      obtain ⟨XA, hXA⟩ : ∃ X : ByteArray, X = ⟨kv.1.toArray⟩ := ⟨_, rfl⟩
      obtain ⟨XV, hXV⟩ : ∃ X : ByteArray, X = ⟨kv.2.toArray⟩ := ⟨_, rfl⟩
      rw [← hXA] at x0
      rw [← hXV] at x1
      have hA1 : bl XA = kv.1 := by rw [hXA]
      have hV1 : bl XV = kv.2 := by rw [hXV]
      have hAl : XA.size = kv.1.length := by rw [hXA]; rfl
      have hVl : XV.size = kv.2.length := by rw [hXV]; rfl
      have hatH : atH kv = [32] ++ bl XA ++ [61, 34] ++ esc true (bl XV) ++ [34] := by rw [hA1, hV1]; rfl
      have hatHl : (atH kv).length = 4 + XA.size + (esc true (bl XV)).length := by
        rw [hatH]
        simp only [List.length_append, List.length_cons, List.length_nil, bl_len]
        omega
      have hesl := (esc_lens true (bl XV)).1
      rw [bl_len] at hesl
      have hlen := HALL.out
      have hlen2 := HL.out
      obtain ⟨w2x, hw2x⟩ : ∃ w2x, w2x = wr.alloc (.cells #[.string XA, .string XV] 38) := ⟨_, rfl⟩
      have hb2x : Below wr.heap.size wr w2x := by rw [hw2x]; exact (Below.refl _ _).alloc (Nat.le_refl _) _
      have z0 : w2x.cell? ⟨wr.heap.size, 0, none⟩ = some (.string XA) := by rw [hw2x, new_cell]; rfl
      have z1 : w2x.cell? ⟨wr.heap.size, 1, none⟩ = some (.string XV) := by rw [hw2x, new_cell]; rfl
      have hbR := HB.out.trans HS.out.2.1
      have hbX : Below w0.heap.size wr w2x := hb2x.mono hbR.size
      have HESC := hide (fun wx => escape_any XV true wx (by omega))
      obtain ⟨ES, hES⟩ : ∃ X : ByteArray, X = ⟨(esc true (bl XV)).toArray⟩ := ⟨_, rfl⟩
      have hESl : ES.size = (esc true (bl XV)).length := by rw [hES]; rfl
      have hESb : bl ES = esc true (bl XV) := by rw [hES]
      rw [← hES] at HESC
      have HWS : Hid (∀ wx, Below w2x.heap.size w2x wx → Calls Tryz.prog 54 #[.pointer (some ⟨w0.heap.size, 0, none⟩), .string (⟨#[32]⟩ ++ XA ++ ⟨#[61, 34]⟩ ++ ES ++ ⟨#[34]⟩)] wx fun e w' => (∃ nn, e = .returned (.tuple #[.int .i64 nn, .nilIface])) ∧ Hid (PB w0 w' (acc ++ ([60] ++ bl XN ++ atsH (d ++ [kv]))) ∧ Below w0.heap.size w w' ∧ Lib.OthersKept 5 (some w0.heap.size) w w' ∧ w'.heap[w.heap.size]? = some (.cells #[.string XN, .slice (some ⟨b, off, none⟩) am ac, .string XT, .slice kp km kc] 100 (0, 0)))) := hide (by
        intro wx hx
        have hbx := bel2 hb2x hx
        refine (ws_st w0 wx _ _ (hbR.trans (hbx.mono hbR.size)) (HS.out.1.keep hbx) ?_).mono ?_
        · simp only [List.length_append, List.length_cons, List.length_nil, bl_len, ByteArray.size_append]
          show _ + (1 + _ + 2 + _ + 1) ≤ _
          omega
        · rintro e w' ⟨rfl, h1, h2, h3⟩
          refine ⟨⟨_, rfl⟩, ?_, HS.out.2.1.trans ((hbx.mono hbR.size).trans h2), HS.out.2.2.1.trans ((kept_bel hbx).trans h3), ?_⟩
          · have e : bl (⟨#[32]⟩ ++ XA ++ ⟨#[61, 34]⟩ ++ ES ++ ⟨#[34]⟩) = atH kv := by
              rw [hatH, bl_cat, bl_cat, bl_cat, bl_cat, hESb]
            rw [e] at h1
            rw [atsH_app, show atsH [kv] = atH kv ++ [] from rfl, List.append_nil]
            simp only [List.append_assoc] at h1 ⊢
            exact h1
          · have hq := HS.out.2.2.2
            exact kept_cell ((kept_bel hbx).trans h3) hq (by omega) (by decide))
      have HD2 : Hid (ats = (d ++ [kv]) ++ rest) := hide (by rw [HD.out]; simp)
      have hjk2 : j + (rest.length + 1) = am := hjk
      have hdj2 : (d ++ [kv]).length = j + 1 := by simp [hdj]
      have hs1 : XA.size ≤ 1000000000 := by omega
      have hs2 : ES.size ≤ 1000000000 := by omega
      clear hge hbX hbR hlen hlen2 hesl hatHl hatH hAl hVl hA1 hV1 hXA hXV hatl hk1 hk2 HD hES hESl hESb HS HA hjk hdj HHT HALL HL HKID
      have HB2X := hide hb2x
      clear hb2x
      go_upto_region 5 with fail
      rw [← hw2x]
      clear hw2x x0 x1
      go_region_with (first | (go_at_call 123; refine (HESC.out _).mono ?_; rintro e wE ⟨rfl, hbE⟩; have z0 : (World.drew w2x).cell? ⟨wr.heap.size, 0, none⟩ = some (.string XA) := z0; have z0 := cell_keep z0 hbE; have HBE := hide (bel2 (bel_one w2x) hbE); clear hbE) | (go_at_call 54; refine (HWS.out _ HBE.out).mono ?_; rintro e wF ⟨⟨nn, rfl⟩, HF⟩))
      all_goals
        go_wp2_with fail
        go_roundg rest.length
        (case measure => simp only [List.length_cons]; omega)
        (case rel => exact ⟨j + 1, d ++ [kv], rest, rfl, hdj2, by omega, by first | rfl | simp, HD2, HF⟩)
end Go.Proofs.YtholfdfjapgfbaaGreatDoor.Dm

/-
  ser.writeAll and ser.HTML.
-/
namespace Go.Proofs.YtholfdfjapgfbaaGreatDoor.Dm
open Go.RowKit
open Utf1

theorem meth_text (w : World) (a b c d : Value) : (method 262 99 (.agg #[a, b, c, d]) "verso/ser.write").run Tryz.prog w = .ok (122, .agg #[a, b, c, d]) w := by kernel_rfl
theorem meth_elem (w : World) (a b c d : Value) : (method 262 100 (.agg #[a, b, c, d]) "verso/ser.write").run Tryz.prog w = .ok (126, .agg #[a, b, c, d]) w := by kernel_rfl

set_option maxRecDepth 100000 in
set_option maxHeartbeats 8000000 in
theorem writeAll_nst (w0 : World) : ∀ (D : Nat) (w : World) (v : Value) (ns : List Nd) (acc : List UInt8), NAtD w0 D v ns → Below w0.heap.size w0 w → PB w0 w acc → acc.length + (htL ns).length ≤ 1000000000 →
    Calls Tryz.prog 28 #[.pointer (some ⟨w0.heap.size, 0, none⟩), v] w (WPost w0 w acc (htL ns)) := by
  intro D
  induction D with
  | zero => intro w v ns acc h; exact h.elim
  | succ D0 ih =>
  intro w v ns acc hk hb hu hlen
  obtain ⟨p, c, rfl, hNm, hnode⟩ := hk
  have HNODE := hide hnode
  have HBW := hide hb
  have HBU := hide hu
  have HIH := hide ih
  have HLEN := hide hlen
  obtain ⟨N, hN⟩ : ∃ N, N = ns.length := ⟨_, rfl⟩
  rw [← hN] at hNm ⊢
  have HN := hide hN
  clear hnode hb ih hN hu hlen
  go_enter Tryz.func28, Tryz.ntmps28
  go_wp2_with fail
  go_loopg [8] N (fun k v8 wr => ∃ (j : Nat) (d rest : List Nd), rest.length = k ∧ d.length = j ∧ j + k = N ∧ v8 = .int .i64 (j : Int) ∧ Hid (ns = d ++ rest) ∧ Hid (PB w0 wr (acc ++ htL d) ∧ Below w0.heap.size w wr ∧ Lib.OthersKept 5 (some w0.heap.size) w wr))
  case atStart => exact ⟨0, [], ns, HN.out.symm, rfl, by omega, rfl, hide rfl, hide ⟨by rw [show htL [] = [] from rfl, List.append_nil]; exact HBU.out, Below.refl _ _, Lib.OthersKept.refl _ _ _⟩⟩
  case round =>
    obtain ⟨j, d, rest, rfl, hdj, hjk, rfl, HD, HS⟩ := hrel
    clear HBU
    match rest, hjk, HD with
    | [], hjk, HD =>
      have e1 : d = ns := by
        have := HD.out
        rw [List.append_nil] at this
        exact this.symm
      simp only [List.length_nil, Nat.add_zero] at hjk
      subst hjk
      subst e1
      clear HD hdj
      go_wp2_with fail
      go_end0
      exact ⟨rfl, HS.out⟩
    | nd :: rest, hjk, HD =>
      have hjN : j < N := by simp only [List.length_cons] at hjk; omega
      have hge : ns[j]? = some nd := by
        rw [HD.out, List.getElem?_append_right (by omega), hdj, Nat.sub_self]
        rfl
      obtain ⟨g, off, ap, am, ac, kp, km, kc, hp, x0, x1, x2, x3, hsz, har, hkk⟩ := HNODE.out j nd hge
      subst hp
      have hbr := HBW.out.trans HS.out.2.1
      have x0 := cell_keep x0 hbr
      have x1 := cell_keep x1 hbr
      have x2 := cell_keep x2 hbr
      have x3 := cell_keep x3 hbr
      have hct : (htL ns).length = (htL d).length + ((htN nd).length + (htL rest).length) := by
        rw [HD.out, htL_app, List.length_append, htL, List.length_append]
      have hlen := HLEN.out
      obtain ⟨XN, hXN⟩ : ∃ X : ByteArray, X = ⟨nd.name.toArray⟩ := ⟨_, rfl⟩
      obtain ⟨XT, hXT⟩ : ∃ X : ByteArray, X = ⟨nd.text.toArray⟩ := ⟨_, rfl⟩
      rw [← hXN] at x0
      rw [← hXT] at x2
      have q0 : XN.toList.isEmpty = decide (nd.name = []) := by rw [hXN]; exact nm_empty _
      have hT1 : bl XT = nd.text := by rw [hXT]
      obtain ⟨w2, hw2⟩ : ∃ w2, w2 = wr.alloc (.cells #[.string XN, .slice ap am ac, .string XT, .slice kp km kc] 42) := ⟨_, rfl⟩
      have hb2 : Below wr.heap.size wr w2 := by rw [hw2]; exact (Below.refl _ _).alloc (Nat.le_refl _) _
      have y0 : w2.cell? ⟨wr.heap.size, 0, none⟩ = some (.string XN) := by rw [hw2, new_cell]; rfl
      have y1 : w2.cell? ⟨wr.heap.size, 1, none⟩ = some (.slice ap am ac) := by rw [hw2, new_cell]; rfl
      have y2 : w2.cell? ⟨wr.heap.size, 2, none⟩ = some (.string XT) := by rw [hw2, new_cell]; rfl
      have y3 : w2.cell? ⟨wr.heap.size, 3, none⟩ = some (.slice kp km kc) := by rw [hw2, new_cell]; rfl
      have HD2 : Hid (ns = (d ++ [nd]) ++ rest) := hide (by rw [HD.out]; simp)
      have HT2 : Hid (acc ++ htL (d ++ [nd]) = acc ++ htL d ++ htN nd) := hide (by rw [htL_app]; show acc ++ (_ ++ (htN nd ++ [])) = _; rw [List.append_nil, List.append_assoc])
      have hjk2 : j + (rest.length + 1) = N := hjk
      have hdj2 : (d ++ [nd]).length = j + 1 := by simp [hdj]
      have HWC : Hid (∀ wx, Below w2.heap.size w2 wx → Calls Tryz.prog (if nd.name = [] then 122 else 126) #[.agg #[.string XN, .slice ap am ac, .string XT, .slice kp km kc], .pointer (some ⟨w0.heap.size, 0, none⟩)] wx fun e w' => e = .returned (.tuple #[]) ∧ Hid (PB w0 w' (acc ++ htL (d ++ [nd])) ∧ Below w0.heap.size w w' ∧ Lib.OthersKept 5 (some w0.heap.size) w w')) := hide (by
        intro wx hx
        have hbx := bel2 hb2 hx
        have hend : ∀ x, x = htN nd → ∀ e w', WPost w0 wx (acc ++ htL d) x e w' → e = .returned (.tuple #[]) ∧ Hid (PB w0 w' (acc ++ htL (d ++ [nd])) ∧ Below w0.heap.size w w' ∧ Lib.OthersKept 5 (some w0.heap.size) w w') := by
          intro x hx e w' ⟨h1, h2, h3, h4⟩
          subst hx
          exact ⟨h1, by rw [HT2.out]; exact h2, HS.out.2.1.trans ((hbx.mono hbr.size).trans h3), HS.out.2.2.trans ((kept_bel hbx).trans h4)⟩
        by_cases hn : nd.name = []
        · rw [if_pos hn]
          have hh := htN_kids nd
          rw [if_pos hn, ← hT1] at hh
          refine (text_write w0 wx ap am ac XN XT kp km kc (acc ++ htL d) (hbr.trans (hbx.mono hbr.size)) (HS.out.1.keep hbx) ?_).mono (hend _ hh.symm)
          rw [List.length_append, ← hh]
          omega
        · rw [if_neg hn]
          refine (elem_write w0 wx nd ap am ac XN XT kp km kc (acc ++ htL d) hXN hn (hbr.trans (hbx.mono hbr.size)) (HS.out.1.keep hbx) har ?_ ?_).mono (hend _ rfl)
          · intro wy ac2 h1 h2 h3
            exact HIH.out wy _ _ ac2 hkk h1 h2 h3
          · rw [List.length_append]
            omega)
      clear hge hkk har hbr HD hXT hXN hjk hct hlen hT1 HS hdj HIH HNODE HT2 hsz
      have HB2 := hide hb2
      clear hb2
      go_upto_region 3 with fail
      rw [← hw2]
      clear hw2 x0 x1 x2 x3
      by_cases hnm : nd.name = []
      · rw [decide_eq_true hnm] at q0
        rw [if_pos hnm] at HWC
        have hm := fun w => meth_text w (.string XN) (.slice ap am ac) (.string XT) (.slice kp km kc)
        go_wp2_with fail
        refine (partOf_text _ ap am ac XN XT kp km kc q0).mono ?_
        rintro e w3 ⟨rfl, hb3⟩
        have HW3 := hide (HWC.out w3 hb3)
        clear hb3 HWC
        go_wp2_with fail
        refine HW3.out.mono ?_
        rintro e w4 ⟨rfl, HS4⟩
        clear HW3 hm
        go_wp2_with fail
        go_roundg rest.length
        case measure => simp only [List.length_cons]; omega
        case rel => exact ⟨j + 1, d ++ [nd], rest, rfl, hdj2, by omega, by first | rfl | simp, HD2, HS4⟩
      · rw [decide_eq_false hnm] at q0
        rw [if_neg hnm] at HWC
        have hm := fun w => meth_elem w (.string XN) (.slice ap am ac) (.string XT) (.slice kp km kc)
        go_wp2_with fail
        refine (partOf_elem _ ap am ac XN XT kp km kc q0).mono ?_
        rintro e w3 ⟨rfl, hb3⟩
        have HW3 := hide (HWC.out w3 hb3)
        clear hb3 HWC
        go_wp2_with fail
        refine HW3.out.mono ?_
        rintro e w4 ⟨rfl, HS4⟩
        clear HW3 hm
        go_wp2_with fail
        go_roundg rest.length
        case measure => simp only [List.length_cons]; omega
        case rel => exact ⟨j + 1, d ++ [nd], rest, rfl, hdj2, by omega, by first | rfl | simp, HD2, HS4⟩

set_option maxRecDepth 100000 in
set_option maxHeartbeats 8000000 in
theorem html_nst (w : World) (v : Value) (ns : List Nd) (hk : NAt w v ns) (hl : (htL ns).length ≤ 1000000000) :
    Calls Tryz.prog 10 #[v] w fun e w' => (∃ O, e = .returned (.string O) ∧ bl O = htL ns) ∧ Below w.heap.size w w' := by
  obtain ⟨D, hk⟩ := hk
  have hb1 : Below w.heap.size w (w.alloc (.cells #[.pointer none, .slice none 0 0] 51)) := (Below.refl _ _).alloc (Nat.le_refl _) _
  have hu1 : PB w (w.alloc (.cells #[.pointer none, .slice none 0 0] 51)) [] := Lib.IsBuilderF.of (Lib.fresh_isBuilder 51 5 w)
  have HW := hide (writeAll_nst w D _ v ns [] hk hb1 hu1 (by simpa using hl))
  have HB1 := hide hb1
  clear hk hb1 hu1
  go_enter Tryz.func10, Tryz.ntmps10
  go_wp2_with fail
  refine HW.out.mono ?_
  rintro e w2 ⟨rfl, m1, m2, -⟩
  have HS := hide (Tryz.Builder_String_any_k w.heap.size w.heap.size _ w2 m1 (HB1.out.trans m2).size)
  have HB2 := hide (HB1.out.trans m2)
  clear m1 m2 HW HB1
  go_wp2_with fail
  refine HS.out.mono ?_
  rintro e w3 ⟨rfl, _, m2, _⟩
  have HB3 := hide (HB2.out.trans m2)
  clear m2 HS HB2
  go_wp2_with fail
  go_ret
  exact ⟨⟨_, rfl, rfl⟩, HB3.out⟩
end Go.Proofs.YtholfdfjapgfbaaGreatDoor.Dm

/-
  Names that may be an element's or an attribute's, as the program tells them.
-/
namespace Utf1
def isSm (c : UInt8) : Bool := decide (97 ≤ c.toNat ∧ c.toNat ≤ 122)
/-- A byte that may stand in a name. -/
def nmB (others : List UInt8) (c : UInt8) : Bool := isSm c || decide (48 ≤ c.toNat ∧ c.toNat ≤ 57) || decide (c ∈ others)
def isNmL (others : List UInt8) : List UInt8 → Bool
  | [] => false
  | c :: t => isSm c && (c :: t).all (nmB others)
def mayE (n : List UInt8) : Bool := !(rawOf n).isSome && isNmL [45] n
def mayA (l : List (List UInt8 × List UInt8)) : Bool := l.all (fun kv => isNmL [45, 95, 58] kv.1) && decide ((l.map Prod.fst).Nodup)
end Utf1
namespace Go.Proofs.YtholfdfjapgfbaaGreatDoor.Dm
open Go.RowKit
open Utf1

set_option maxRecDepth 100000 in
theorem isSmall_any (c : UInt8) (w : World) : Calls Tryz.prog 130 #[.int .u8 (c.toNat : Int)] w fun e w' => e = .returned (.bool (isSm c)) ∧ w' = w := by
  have hc : c.toNat < 256 := c.toNat_lt
  unfold isSm
  obtain ⟨z, hz⟩ : ∃ z, z = c.toNat := ⟨_, rfl⟩
  rw [← hz] at hc ⊢
  clear hz
  by_cases h1 : 97 ≤ z
  · by_cases h2 : z ≤ 122
    · rw [decide_eq_true ⟨h1, h2⟩]
      go_enter Tryz.func130, Tryz.ntmps130
      go_wp2
      go_ret
      exact ⟨ret_bool (decide_eq_true (by omega)), rfl⟩
    · rw [decide_eq_false (fun h => h2 h.2)]
      go_enter Tryz.func130, Tryz.ntmps130
      go_wp2
      go_ret
      exact ⟨ret_bool (decide_eq_false (by omega)), rfl⟩
  · rw [decide_eq_false (fun h => h1 h.1)]
    go_enter Tryz.func130, Tryz.ntmps130
    go_wp2
    go_ret
    exact ⟨rfl, rfl⟩
theorem indexByte_neg (l : List UInt8) (c : UInt8) : decide (Lib.indexByte l c < 0) = !decide (c ∈ l) := by
  by_cases h : c ∈ l
  · rw [decide_eq_true h]
    obtain ⟨k, hk⟩ := List.getElem?_of_mem h
    have h1 := Lib.indexByte_ge l c
    have h2 : Lib.indexByte l c ≠ -1 := fun e => Lib.indexByte_none e k hk
    exact decide_eq_false (by omega)
  · rw [decide_eq_false h]
    refine decide_eq_true ?_
    apply Classical.byContradiction
    intro h2
    obtain ⟨o, ho⟩ : ∃ o : Nat, Lib.indexByte l c = o := ⟨(Lib.indexByte l c).toNat, by omega⟩
    exact h (List.mem_of_getElem? (Lib.indexByte_some ho).1)
theorem nat_u8 (c : UInt8) : (c.toNat : Int).toNat.toUInt8 = c := by
  apply UInt8.toNat.inj
  simp

set_option maxRecDepth 100000 in
set_option maxHeartbeats 8000000 in
theorem isName_any (s others : ByteArray) (w : World) (hs : s.size ≤ 9223372036854775807) : Calls Tryz.prog 129 #[.string s, .string others] w fun e w' => e = .returned (.bool (isNmL (bl others) (bl s))) ∧ w' = w := by
  have qE : s.toList.isEmpty = decide (bl s = []) := by
    have := nm_empty (bl s)
    rwa [bl_eta] at this
  by_cases h0 : bl s = []
  · rw [decide_eq_true h0] at qE
    rw [h0]
    go_enter Tryz.func129, Tryz.ntmps129
    go_wp2
    go_ret
    exact ⟨rfl, rfl⟩
  rw [decide_eq_false h0] at qE
  have hpos : 0 < s.size := by
    rw [← bl_len]
    cases h : bl s with
    | nil => exact absurd h h0
    | cons c t => simp
  have hat : ∀ j (h : j < s.size), (bl s)[j]? = some (s[j]'h) := by
    intro j h
    rw [List.getElem?_eq_getElem (by rw [bl_len]; exact h)]
    rfl
  have hct : ∃ t, bl s = (s[0]'hpos) :: t := by
    have h1 := hat 0 hpos
    cases h : bl s with
    | nil => exact absurd h h0
    | cons c t =>
      rw [h] at h1
      have : c = s[0]'hpos := by simpa using h1
      rw [this]
      exact ⟨t, rfl⟩
  obtain ⟨t0, hct⟩ := hct
  have HAT := hide hat
  have HSM := hide (fun w => isSmall_any (s[0]'hpos) w)
  have HRES : Hid (isNmL (bl others) (bl s) = (isSm (s[0]'hpos) && (bl s).all (nmB (bl others)))) := hide (by rw [hct]; rfl)
  rw [HRES.out]
  clear hat h0 hct HRES
  cases hsm : isSm (s[0]'hpos) with
  | false =>
    rw [hsm] at HSM
    go_enter Tryz.func129, Tryz.ntmps129
    go_wp2_with fail
    refine (HSM.out _).mono ?_
    rintro e w1 ⟨rfl, rfl⟩
    go_wp2_with fail
    go_ret
    exact ⟨rfl, rfl⟩
  | true =>
    rw [hsm] at HSM
    rw [Bool.true_and]
    go_enter Tryz.func129, Tryz.ntmps129
    go_wp2_with fail
    refine (HSM.out _).mono ?_
    rintro e w1 ⟨rfl, rfl⟩
    clear HSM
    go_wp2_with fail
    clear hsm
    go_loopg [17] s.size (fun k v17 wr => ∃ j : Nat, j + k = s.size ∧ v17 = .int .i64 (j : Int) ∧ wr = w1 ∧ Hid (((bl s).take j).all (nmB (bl others)) = true))
    case atStart => exact ⟨0, by omega, rfl, rfl, hide rfl⟩
    case round =>
      obtain ⟨j, hjk, rfl, rfl, HA⟩ := hrel
      by_cases hjl : j < s.size
      · have hgc := HAT.out j hjl
        have HTK : Hid ((bl s).take (j + 1) = (bl s).take j ++ [s[j]'hjl]) := hide (by rw [List.take_add_one, hgc]; rfl)
        have HNO : Hid (nmB (bl others) (s[j]'hjl) = false → (bl s).all (nmB (bl others)) = false) := hide (by
          intro h
          rw [List.all_eq_false]
          exact ⟨s[j]'hjl, List.mem_of_getElem? hgc, by rw [h]; decide⟩)
        have HN1 : Hid (nmB (bl others) (s[j]'hjl) = true → ((bl s).take (j + 1)).all (nmB (bl others)) = true) := hide (by
          intro h
          rw [HTK.out, List.all_append, HA.out]
          simp [h])
        have HIB := hide (fun w => Tryz.strings_IndexByte others ((s[j]'hjl).toNat : Int) w)
        rw [nat_u8] at HIB
        have hib := indexByte_neg others.data.toList (s[j]'hjl)
        have hcb : (s[j]'hjl).toNat < 256 := (s[j]'hjl).toNat_lt
        have HS1 := hide (fun w => isSmall_any (s[j]'hjl) w)
        have HB : Hid (nmB (bl others) (s[j]'hjl) = (isSm (s[j]'hjl) || decide (48 ≤ (s[j]'hjl).toNat ∧ (s[j]'hjl).toNat ≤ 57) || decide (s[j]'hjl ∈ bl others))) := hide rfl
        obtain ⟨ix, hix⟩ : ∃ ix, ix = Lib.indexByte others.data.toList (s[j]'hjl) := ⟨_, rfl⟩
        rw [← hix] at HIB hib
        clear hgc hix HTK
        have yes : nmB (bl others) (s[j]'hjl) = true → Hid (((bl s).take (j + 1)).all (nmB (bl others)) = true) := fun h => hide (HN1.out h)
        have HYES := hide yes
        clear yes HN1 HAT HA
        cases hsj : isSm (s[j]'hjl) with
        | true =>
          rw [hsj] at HS1
          have HY := HYES.out (by rw [HB.out, hsj]; rfl)
          clear HYES HNO HB hib HIB hsj
          go_wp2_with fail
          refine (HS1.out _).mono ?_
          rintro e w2 ⟨rfl, rfl⟩
          clear HS1
          go_wp2_with fail
          go_roundg (gk - 1)
          case measure => omega
          case rel => exact ⟨j + 1, by omega, by first | rfl | simp, rfl, HY⟩
        | false =>
          rw [hsj] at HS1
          by_cases h1 : 48 ≤ (s[j]'hjl).toNat
          · by_cases h2 : (s[j]'hjl).toNat ≤ 57
            · have HY := HYES.out (by rw [HB.out, decide_eq_true (And.intro h1 h2)]; simp)
              clear HYES HNO HB hib HIB hsj
              go_wp2_with fail
              refine (HS1.out _).mono ?_
              rintro e w2 ⟨rfl, rfl⟩
              clear HS1
              go_wp2_with fail
              go_roundg (gk - 1)
              case measure => omega
              case rel => exact ⟨j + 1, by omega, by first | rfl | simp, rfl, HY⟩
            · by_cases ho : s[j]'hjl ∈ bl others
              · have HY := HYES.out (by rw [HB.out, decide_eq_true ho]; simp)
                have hi2 : ¬ ix < 0 := by
                  have := hib
                  rw [decide_eq_true ho] at this
                  exact of_decide_eq_false this
                clear HYES HNO HB hib hsj ho
                go_wp2_with fail
                refine (HS1.out _).mono ?_
                rintro e w2 ⟨rfl, rfl⟩
                clear HS1
                go_wp2_with fail
                refine (HIB.out _).mono ?_
                rintro e w2 ⟨rfl, rfl⟩
                clear HIB
                go_wp2_with fail
                go_roundg (gk - 1)
                case measure => omega
                case rel => exact ⟨j + 1, by omega, by first | rfl | simp, rfl, HY⟩
              · have HY := hide (HNO.out (by rw [HB.out, hsj, decide_eq_false (fun h => h2 h.2), decide_eq_false ho]; rfl))
                have hi2 : ix < 0 := by
                  have := hib
                  rw [decide_eq_false ho] at this
                  exact of_decide_eq_true this
                clear HYES HNO HB hib hsj ho
                go_wp2_with fail
                refine (HS1.out _).mono ?_
                rintro e w2 ⟨rfl, rfl⟩
                clear HS1
                go_wp2_with fail
                refine (HIB.out _).mono ?_
                rintro e w2 ⟨rfl, rfl⟩
                clear HIB
                go_wp2_with fail
                try rw [Exit.noGoto_ret]
                go_ret
                exact ⟨ret_bool HY.out.symm, rfl⟩
          · by_cases ho : s[j]'hjl ∈ bl others
            · have HY := HYES.out (by rw [HB.out, decide_eq_true ho]; simp)
              have hi2 : ¬ ix < 0 := by
                have := hib
                rw [decide_eq_true ho] at this
                exact of_decide_eq_false this
              clear HYES HNO HB hib hsj ho
              go_wp2_with fail
              refine (HS1.out _).mono ?_
              rintro e w2 ⟨rfl, rfl⟩
              clear HS1
              go_wp2_with fail
              refine (HIB.out _).mono ?_
              rintro e w2 ⟨rfl, rfl⟩
              clear HIB
              go_wp2_with fail
              go_roundg (gk - 1)
              case measure => omega
              case rel => exact ⟨j + 1, by omega, by first | rfl | simp, rfl, HY⟩
            · have HY := hide (HNO.out (by rw [HB.out, hsj, decide_eq_false (fun h => h1 h.1), decide_eq_false ho]; rfl))
              have hi2 : ix < 0 := by
                have := hib
                rw [decide_eq_false ho] at this
                exact of_decide_eq_true this
              clear HYES HNO HB hib hsj ho
              go_wp2_with fail
              refine (HS1.out _).mono ?_
              rintro e w2 ⟨rfl, rfl⟩
              clear HS1
              go_wp2_with fail
              refine (HIB.out _).mono ?_
              rintro e w2 ⟨rfl, rfl⟩
              clear HIB
              go_wp2_with fail
              try rw [Exit.noGoto_ret]
              go_ret
              exact ⟨ret_bool HY.out.symm, rfl⟩
      · have e : j = s.size := by omega
        have HR : Hid ((bl s).all (nmB (bl others)) = true) := hide (by
          have := HA.out
          rwa [List.take_of_length_le (by rw [bl_len, e]; exact Nat.le_refl _)] at this)
        go_wp2_with fail
        go_ret
        exact ⟨ret_bool HR.out.symm, rfl⟩

set_option maxRecDepth 100000 in
set_option maxHeartbeats 8000000 in
theorem mayBeElement_any (s : ByteArray) (w : World) (hs : s.size ≤ 9223372036854775807) : Calls Tryz.prog 127 #[.string s] w fun e w' => e = .returned (.bool (mayE (bl s))) ∧ w' = w := by
  have HR := hide (fun w => raw_any s w)
  have HN := hide (fun w => isName_any s ⟨#[45]⟩ w hs)
  have HM : Hid (mayE (bl s) = (!(rawOf (bl s)).isSome && isNmL (bl ⟨#[45]⟩) (bl s))) := hide rfl
  rw [HM.out]
  clear HM
  obtain ⟨r, hr⟩ : ∃ r, r = (rawOf (bl s)).isSome := ⟨_, rfl⟩
  obtain ⟨r2, hr2⟩ : ∃ r2, r2 = (rawOf (bl s)).getD false := ⟨_, rfl⟩
  obtain ⟨q, hq⟩ : ∃ q, q = isNmL (bl ⟨#[45]⟩) (bl s) := ⟨_, rfl⟩
  rw [← hr, ← hr2] at HR
  rw [← hq] at HN
  rw [← hr, ← hq]
  clear hr hr2 hq
  cases r with
  | true =>
    go_enter Tryz.func127, Tryz.ntmps127
    go_wp2_with fail
    refine (HR.out _).mono ?_
    rintro e w1 ⟨rfl, rfl⟩
    go_wp2_with fail
    go_ret
    exact ⟨rfl, rfl⟩
  | false =>
    go_enter Tryz.func127, Tryz.ntmps127
    go_wp2_with fail
    refine (HR.out _).mono ?_
    rintro e w1 ⟨rfl, rfl⟩
    go_wp2_with fail
    refine (HN.out _).mono ?_
    rintro e w1 ⟨rfl, rfl⟩
    go_wp2_with fail
    go_ret
    exact ⟨rfl, rfl⟩

/-- How often each name was met. -/
def Met (D : DataW Unit) (ns : List (List UInt8)) : Prop := ∀ n : List UInt8, ∃ c : Int, D.atKey (.string n) (.lit (.int .i64 0)) = .lit (.int .i64 c) ∧ 0 ≤ c ∧ c ≤ 1 ∧ (c = 0 ↔ n ∉ ns)
theorem zeroInt (w : World) : (zeroValue 3).run Tryz.prog w = .ok (.int .i64 0) w := by kernel_rfl
theorem law9 : Maps.Keyed Tryz.prog 9 := Maps.string_keyed Tryz.underlying9
/-- A map of names that were met, in a block of its own. -/
def MetSt (w : World) (b k : Nat) (ns : List (List UInt8)) : Prop := ∃ D : DataW Unit, w.ownsMap Tryz.prog 9 (plainElem Tryz.prog 3) b k D ∧ Maps.IsMap D ∧ Met D ns
theorem MetSt.below {w w' : World} {b k : Nat} {ns : List (List UInt8)} (h : MetSt w b k ns) (hb : Below w.heap.size w w') : MetSt w' b k ns := by
  obtain ⟨D, h1, h2⟩ := h
  exact ⟨D, h1.kept (below_grown hb) (by simp), h2⟩
theorem met_new (w : World) : MetSt (w.alloc (.map #[] 0)) w.heap.size 0 [] :=
  ⟨_, World.ownsMap_made w _ _ _, ⟨_, rfl⟩, fun n => ⟨0, rfl, by decide, by decide, by simp⟩⟩
theorem met_step {w w0 : World} {b k : Nat} {ns : List (List UInt8)} (h : MetSt w b k ns) (hk : k < 9223372036854775807) (L : ByteArray) (hL : L.size ≤ 281474976710656) (hb : Below w0.heap.size w0 w) (hb0 : w0.heap.size ≤ b) :
    ∃ (c : Int) (w2 : World), (c = 0 ∨ c = 1) ∧ (c = 0 ↔ bl L ∉ ns) ∧
      (Instr.lookup 82 (.map (some b)) (.string L) false).run Tryz.prog w = .ok (.int .i64 c) w ∧
      (Instr.mapUpdate 82 (.map (some b)) (.string L) (.int .i64 (c + 1))).run Tryz.prog w = .ok () w2 ∧
      (Instr.lookup 82 (.map (some b)) (.string L) false).run Tryz.prog w2 = .ok (.int .i64 (c + 1)) w2 ∧
      (bl L ∉ ns → MetSt w2 b (k + 1) (ns ++ [bl L])) ∧ Below w0.heap.size w0 w2 ∧ w.grownBy w2 (some b) := by
  obtain ⟨D, h4, hD, hm⟩ := h
  have hkey : keyOf Tryz.prog 9 (.string L) = some (.string L.data.toList) := WideMaps.keyOf_string_mk Tryz.underlying9 (by unfold maxLen; omega)
  obtain ⟨c, hlk, hat, _⟩ := h4.lookup_int law9 Tryz.underlying82 Tryz.underlying3 (zeroInt _) hkey
  obtain ⟨c', hat', hc0, hck, hcz⟩ := hm (bl L)
  have hcc : c' = c := by
    rw [hat] at hat'
    cases hat'
    rfl
  subst hcc
  have hwf : (Lit.int .i64 (c' + 1)).wf = true := WalkArith.wf_i64 (by omega)
  obtain ⟨w2, hup, hown2, hgr⟩ := h4.update law9 Tryz.underlying82 (by unfold maxLen; omega) hkey (plainElem_int (H := Unit) Tryz.underlying3 hwf)
  obtain ⟨c2, hlk2, hat2, _⟩ := hown2.lookup_int law9 Tryz.underlying82 Tryz.underlying3 (zeroInt _) hkey
  have hc2 : c2 = c' + 1 := by
    rw [Maps.atKey_put_same hD (show WideAt.IsKeyLit (.string L.data.toList) from trivial)] at hat2
    cases hat2
    rfl
  subst hc2
  refine ⟨c', w2, by omega, hcz, hlk, hup, hlk2, fun hn => ⟨_, hown2, hD.put _ _, ?_⟩, hb.grown hgr hb.size (fun j hj => by cases hj; exact hb0), hgr⟩
  intro n
  by_cases hne : n = bl L
  · subst hne
    refine ⟨c' + 1, Maps.atKey_put_same hD (show WideAt.IsKeyLit (.string L.data.toList) from trivial) _ _, by omega, by have := hcz.2 hn; omega, ?_⟩
    constructor
    · intro h
      omega
    · intro h
      simp at h
  · obtain ⟨d, hd1, hd2, hd3, hd4⟩ := hm n
    refine ⟨d, ?_, hd2, hd3, ?_⟩
    · rw [Maps.atKey_put_other (by intro e; cases e; exact hne rfl)]
      exact hd1
    · rw [hd4]
      simp [hne]
end Go.Proofs.YtholfdfjapgfbaaGreatDoor.Dm

/-
  ser.mayBeAttrs, and what stands within an element.
-/
namespace Utf1
theorem mayA_nil : mayA [] = true := by decide
theorem mayA_false {a d : List (List UInt8 × List UInt8)} {kv : List UInt8 × List UInt8} {r : List (List UInt8 × List UInt8)} (ha : a = d ++ kv :: r) (h : kv.1 ∈ d.map Prod.fst ∨ isNmL [45, 95, 58] kv.1 = false) : mayA a = false := by
  unfold mayA
  rcases h with h | h
  · rw [decide_eq_false, Bool.and_false]
    rw [ha, List.map_append, List.map_cons]
    intro hn
    exact (List.nodup_append.1 hn).2.2 _ h _ (List.mem_cons_self ..) rfl
  · have : a.all (fun kv => isNmL [45, 95, 58] kv.1) = false := by
      rw [List.all_eq_false]
      exact ⟨kv, by rw [ha]; simp, by rw [h]; decide⟩
    rw [this, Bool.false_and]
theorem mayA_more {d : List (List UInt8 × List UInt8)} {kv : List UInt8 × List UInt8} (hd : mayA d = true) (h1 : kv.1 ∉ d.map Prod.fst) (h2 : isNmL [45, 95, 58] kv.1 = true) : mayA (d ++ [kv]) = true := by
  unfold mayA at *
  rw [Bool.and_eq_true] at hd ⊢
  obtain ⟨a1, a2⟩ := hd
  refine ⟨?_, ?_⟩
  · rw [List.all_append, a1]
    simp [h2]
  · rw [List.map_append]
    refine decide_eq_true ?_
    rw [List.nodup_append]
    refine ⟨of_decide_eq_true a2, by simp, ?_⟩
    intro x hx y hy
    have : y = kv.1 := by simpa using hy
    subst this
    intro e
    subst e
    exact h1 hx
end Utf1
namespace Go.Proofs.YtholfdfjapgfbaaGreatDoor.Dm
open Go.RowKit
open Utf1

theorem grown_cell {w w' : World} {b : Nat} {a : Addr} {v : Value} (h : w.cell? a = some v) (hg : w.grownBy w' (some b)) (hne : a.block ≠ b) : w'.cell? a = some v := by
  have hl := cell_lt h
  unfold World.cell? at h ⊢
  rw [hg.block _ hl (by intro e; injection e with e; exact hne e)]
  exact h

set_option maxRecDepth 100000 in
set_option maxHeartbeats 8000000 in
theorem mayBeAttrs_any (ap : Option Addr) (am ac : Nat) (ats : List (List UInt8 × List UInt8)) (w : World) (ha : ARow w ap am ats) : Calls Tryz.prog 128 #[.slice ap am ac] w fun e w' => e = .returned (.bool (mayA ats)) ∧ Below w.heap.size w w' := by
  have hmm := @run_makeMap Tryz.prog
  have HA := hide ha
  have HAM := hide ha.1.1
  have ham := ha.1.2
  clear ha
  go_enter Tryz.func128, Tryz.ntmps128
  go_wp2_with fail
  go_loopg [9] am (fun k v9 wr => ∃ (j : Nat) (d r : List (List UInt8 × List UInt8)), r.length = k ∧ d.length = j ∧ j + k = am ∧ v9 = .int .i64 (j : Int) ∧ Hid (ats = d ++ r) ∧ Hid (mayA d = true) ∧ Hid (MetSt wr w.heap.size j (d.map Prod.fst)) ∧ Hid (Below w.heap.size w wr))
  case atStart => exact ⟨0, [], ats, HAM.out.symm, rfl, by omega, rfl, hide rfl, hide mayA_nil, hide (met_new w), hide ((Below.refl _ _).alloc (Nat.le_refl _) _)⟩
  case round =>
    obtain ⟨j, d, r, rfl, hdj, hjk, rfl, HD, HM, HS, HB⟩ := hrel
    clear hmm
    match r, hjk, HD with
    | [], hjk, HD =>
      have e1 : d = ats := by
        have := HD.out
        rw [List.append_nil] at this
        exact this.symm
      simp only [List.length_nil, Nat.add_zero] at hjk
      subst hjk
      subst e1
      clear HD hdj
      go_wp2_with fail
      go_ret
      exact ⟨ret_bool HM.out.symm, HB.out⟩
    | kv :: r, hjk, HD =>
      have hjN : j < am := by simp only [List.length_cons] at hjk; omega
      have hge : ats[j]? = some kv := by
        rw [HD.out, List.getElem?_append_right (by omega), hdj, Nat.sub_self]
        rfl
      obtain ⟨b, off, rfl, x0, x1, hk1, hk2⟩ := HA.out.2 j kv hge
      have x0 := cell_keep x0 HB.out
      have x1 := cell_keep x1 HB.out
      obtain ⟨XA, hXA⟩ : ∃ X : ByteArray, X = ⟨kv.1.toArray⟩ := ⟨_, rfl⟩
      obtain ⟨XV, hXV⟩ : ∃ X : ByteArray, X = ⟨kv.2.toArray⟩ := ⟨_, rfl⟩
      rw [← hXA] at x0
      rw [← hXV] at x1
      have hA1 : bl XA = kv.1 := by rw [hXA]
      have hAl : XA.size = kv.1.length := by rw [hXA]; rfl
      obtain ⟨w2, hw2⟩ : ∃ w2, w2 = wr.alloc (.cells #[.string XA, .string XV] 38) := ⟨_, rfl⟩
      have hb2 : Below wr.heap.size wr w2 := by rw [hw2]; exact (Below.refl _ _).alloc (Nat.le_refl _) _
      have z0 : w2.cell? ⟨wr.heap.size, 0, none⟩ = some (.string XA) := by rw [hw2, new_cell]; rfl
      have hsz := HB.out.size
      have hmlt : w.heap.size < wr.heap.size := by
        obtain ⟨D, h4, _⟩ := HS.out
        exact h4.lt
      obtain ⟨c, w3, hc, hcz, hlk, hup, hlk2, hmet, hb3, hgr⟩ := met_step (w0 := w) (HS.out.below hb2) (by omega) XA (by omega) (bel2 HB.out hb2) (Nat.le_refl _)
      have z1 := grown_cell z0 hgr (by show wr.heap.size ≠ w.heap.size; omega)
      have HNM := hide (fun w => isName_any XA ⟨#[45, 95, 58]⟩ w (by omega))
      have HNQ : Hid (isNmL (bl ⟨#[45, 95, 58]⟩) (bl XA) = isNmL [45, 95, 58] kv.1) := hide (by rw [hA1])
      rw [HNQ.out] at HNM
      have HB3 := hide hb3
      have HMET := hide hmet
      have HCZ := hide hcz
      have HXA := hide hA1
      have HD2 : Hid (ats = (d ++ [kv]) ++ r) := hide (by rw [HD.out]; simp)
      have hjk2 : j + (r.length + 1) = am := hjk
      have hdj2 : (d ++ [kv]).length = j + 1 := by simp [hdj]
      have HF : Hid (kv.1 ∈ d.map Prod.fst ∨ isNmL [45, 95, 58] kv.1 = false → mayA ats = false) := hide (fun h => mayA_false HD.out h)
      clear hge hk1 hk2 hXA hXV hb2 hAl hb3 hmet hcz hA1 HNQ HD hgr hjk hdj HS
      go_upto_region 5 with fail
      rw [← hw2]
      clear hw2 x0 x1
      by_cases hin : kv.1 ∈ d.map Prod.fst
      · have hc1 : c = 1 := by
          rcases hc with h | h
          · have := HCZ.out.1 h
            rw [HXA.out] at this
            exact absurd hin this
          · exact h
        subst hc1
        rw [show (1 : Int) + 1 = 2 from rfl] at hup hlk2
        have HR := hide (HF.out (.inl hin))
        clear HF hin HMET HCZ hc HXA
        go_wp2_with fail
        try rw [Exit.noGoto_ret]
        go_ret
        exact ⟨ret_bool HR.out.symm, HB3.out⟩
      · have hc0 : c = 0 := HCZ.out.2 (by rw [HXA.out]; exact hin)
        subst hc0
        rw [show (0 : Int) + 1 = 1 from rfl] at hup hlk2
        cases hnm : isNmL [45, 95, 58] kv.1 with
        | false =>
          rw [hnm] at HNM
          have HR := hide (HF.out (.inr hnm))
          clear HF hin HMET HCZ hc HXA hnm
          go_wp2_with fail
          refine (HNM.out _).mono ?_
          rintro e w4 ⟨rfl, rfl⟩
          go_wp2_with fail
          try rw [Exit.noGoto_ret]
          go_ret
          exact ⟨ret_bool HR.out.symm, HB3.out⟩
        | true =>
          rw [hnm] at HNM
          have HM2 := hide (mayA_more HM.out hin hnm)
          have HS2 : Hid (MetSt w3 w.heap.size (j + 1) ((d ++ [kv]).map Prod.fst)) := hide (by
            rw [List.map_append]
            have := HMET.out (by rw [HXA.out]; exact hin)
            rw [HXA.out] at this
            exact this)
          clear HF hin HMET HCZ hc HXA hnm HM
          go_wp2_with fail
          refine (HNM.out _).mono ?_
          rintro e w4 ⟨rfl, rfl⟩
          go_wp2_with fail
          go_roundg r.length
          case measure => simp only [List.length_cons]; omega
          case rel => exact ⟨j + 1, d ++ [kv], r, rfl, hdj2, by omega, by first | rfl | simp, HD2, HM2, HS2, HB3⟩
end Go.Proofs.YtholfdfjapgfbaaGreatDoor.Dm

/-
  Which trees are stable: the math, and ser's place.within, text.stable.
-/
namespace Utf1
/-- Whether the innermost li, ul or ol is a li, behind the start of an element. -/
def itm (i : Bool) (n : List UInt8) : Bool := if n = [108, 105] then true else if n = [117, 108] ∨ n = [111, 108] then false else i
mutual
def stN (p i b : Bool) : Nd → Bool
  | .mk n a t k => if n = [] then !t.isEmpty && !b && a.isEmpty && k.isEmpty else t.isEmpty && mayE n && mayA a && !((p && decide (n ∈ blocks)) || (i && decide (n = [108, 105]))) && (if n ∈ voids then k.isEmpty else stL (p || decide (n = [112])) (itm i n) false k)
def stL (p i b : Bool) : List Nd → Bool
  | [] => true
  | n :: r => stN p i b n && stL p i (decide (n.name = [])) r
end
theorem stN_kids (p i b : Bool) (x : Nd) : stN p i b x = if x.name = [] then !x.text.isEmpty && !b && x.attrs.isEmpty && x.kids.isEmpty else x.text.isEmpty && mayE x.name && mayA x.attrs && !((p && decide (x.name ∈ blocks)) || (i && decide (x.name = [108, 105]))) && (if x.name ∈ voids then x.kids.isEmpty else stL (p || decide (x.name = [112])) (itm i x.name) false x.kids) := by
  cases x
  rw [stN]
  rfl
end Utf1
namespace Go.Proofs.YtholfdfjapgfbaaGreatDoor.Dm
open Go.RowKit
open Utf1

theorem heap3_mid (w : World) (a b c : Obj) : (((w.alloc a).alloc b).alloc c).heap[w.heap.size + 1]? = some b := by
  show (((w.heap.push a).push b).push c)[w.heap.size + 1]? = _
  rw [Array.getElem?_push, if_neg (by simp), Array.getElem?_push, if_pos (by simp)]
theorem lit_eq (s : ByteArray) (l : List UInt8) : (s.toList == l) = decide (bl s = l) := by
  rw [ByteArray.toList_eq]
  by_cases h : bl s = l
  · rw [decide_eq_true h]
    exact beq_iff_eq.2 h
  · rw [decide_eq_false h]
    exact beq_eq_false_iff_ne.2 h

set_option maxRecDepth 100000 in
set_option maxHeartbeats 8000000 in
theorem within_any (p i b : Bool) (s : ByteArray) (w : World) : Calls Tryz.prog 120 #[.agg #[.bool p, .bool i, .bool b], .string s] w fun e w' => e = .returned (.agg #[.bool (p || decide (bl s = [112])), .bool (itm i (bl s)), .bool false]) ∧ Below w.heap.size w w' := by
  have q1 := lit_eq s [112]
  have q2 := lit_eq s [108, 105]
  have q3 := lit_eq s [117, 108]
  have q4 := lit_eq s [111, 108]
  by_cases h1 : bl s = [112]
  · rw [decide_eq_true h1] at q1
    have HR : Hid (.agg #[.bool (p || decide (bl s = [112])), .bool (itm i (bl s)), .bool false] = Value.agg #[.bool true, .bool i, .bool false]) := hide (by rw [h1]; cases p <;> cases i <;> rfl)
    clear h1 q2 q3 q4
    rw [HR.out]
    go_enter Tryz.func120, Tryz.ntmps120
    go_wp2_with fail
    refine bodyPost_ret (results_cell_row rfl _ _ (w.heap.size + 1) 46 #[.bool true, .bool i, .bool false] (0, 0) _ rfl ?_ Tryz.underlying46 rfl (by kernel_rfl)) rfl ?_
    · exact heap3_mid _ _ _ _
    · exact ⟨rfl, (((Below.refl _ _).alloc (Nat.le_refl _) _).alloc (by simp) _).alloc (by simp; omega) _⟩
  rw [decide_eq_false h1] at q1
  by_cases h2 : bl s = [108, 105]
  · rw [decide_eq_true h2] at q2
    have HR : Hid (.agg #[.bool (p || decide (bl s = [112])), .bool (itm i (bl s)), .bool false] = Value.agg #[.bool p, .bool true, .bool false]) := hide (by rw [h2]; cases p <;> cases i <;> rfl)
    clear h1 h2 q3 q4
    rw [HR.out]
    go_enter Tryz.func120, Tryz.ntmps120
    go_wp2_with fail
    refine bodyPost_ret (results_cell_row rfl _ _ (w.heap.size + 1) 46 #[.bool p, .bool true, .bool false] (0, 0) _ rfl ?_ Tryz.underlying46 rfl (by kernel_rfl)) rfl ?_
    · exact heap3_mid _ _ _ _
    · exact ⟨rfl, (((Below.refl _ _).alloc (Nat.le_refl _) _).alloc (by simp) _).alloc (by simp; omega) _⟩
  rw [decide_eq_false h2] at q2
  by_cases h3 : bl s = [117, 108]
  · rw [decide_eq_true h3] at q3
    have HR : Hid (.agg #[.bool (p || decide (bl s = [112])), .bool (itm i (bl s)), .bool false] = Value.agg #[.bool p, .bool false, .bool false]) := hide (by rw [h3]; cases p <;> cases i <;> rfl)
    clear h1 h2 h3 q4
    rw [HR.out]
    go_enter Tryz.func120, Tryz.ntmps120
    go_wp2_with fail
    refine bodyPost_ret (results_cell_row rfl _ _ (w.heap.size + 1) 46 #[.bool p, .bool false, .bool false] (0, 0) _ rfl ?_ Tryz.underlying46 rfl (by kernel_rfl)) rfl ?_
    · exact heap3_mid _ _ _ _
    · exact ⟨rfl, (((Below.refl _ _).alloc (Nat.le_refl _) _).alloc (by simp) _).alloc (by simp; omega) _⟩
  rw [decide_eq_false h3] at q3
  by_cases h4 : bl s = [111, 108]
  · rw [decide_eq_true h4] at q4
    have HR : Hid (.agg #[.bool (p || decide (bl s = [112])), .bool (itm i (bl s)), .bool false] = Value.agg #[.bool p, .bool false, .bool false]) := hide (by rw [h4]; cases p <;> cases i <;> rfl)
    clear h1 h2 h3 h4
    rw [HR.out]
    go_enter Tryz.func120, Tryz.ntmps120
    go_wp2_with fail
    refine bodyPost_ret (results_cell_row rfl _ _ (w.heap.size + 1) 46 #[.bool p, .bool false, .bool false] (0, 0) _ rfl ?_ Tryz.underlying46 rfl (by kernel_rfl)) rfl ?_
    · exact heap3_mid _ _ _ _
    · exact ⟨rfl, (((Below.refl _ _).alloc (Nat.le_refl _) _).alloc (by simp) _).alloc (by simp; omega) _⟩
  rw [decide_eq_false h4] at q4
  have HR : Hid (.agg #[.bool (p || decide (bl s = [112])), .bool (itm i (bl s)), .bool false] = Value.agg #[.bool p, .bool i, .bool false]) := hide (by unfold itm; rw [if_neg h2, if_neg (fun h => h.elim h3 h4), decide_eq_false h1, Bool.or_false])
  clear h1 h2 h3 h4
  rw [HR.out]
  go_enter Tryz.func120, Tryz.ntmps120
  go_wp2_with fail
  refine bodyPost_ret (results_cell_row rfl _ _ (w.heap.size + 1) 46 #[.bool p, .bool i, .bool false] (0, 0) _ rfl ?_ Tryz.underlying46 rfl (by kernel_rfl)) rfl ?_
  · exact heap3_mid _ _ _ _
  · exact ⟨rfl, (((Below.refl _ _).alloc (Nat.le_refl _) _).alloc (by simp) _).alloc (by simp; omega) _⟩

set_option maxRecDepth 100000 in
set_option maxHeartbeats 8000000 in
theorem text_stable (w : World) (ap : Option Addr) (am ac : Nat) (XN XT : ByteArray) (kp : Option Addr) (km kc : Nat) (p i b : Bool) (ham : am ≤ 9223372036854775807) (hkm : km ≤ 9223372036854775807) :
    Calls Tryz.prog 121 #[.agg #[.string XN, .slice ap am ac, .string XT, .slice kp km kc], .agg #[.bool p, .bool i, .bool b]] w fun e w' => e = .returned (.bool (!decide (bl XT = []) && !b && decide (am = 0) && decide (km = 0))) ∧ Below w.heap.size w w' := by
  have q1 : XT.toList.isEmpty = decide (bl XT = []) := by
    have := nm_empty (bl XT)
    rwa [bl_eta] at this
  have hbel : ∀ o1 o2 : Obj, Below w.heap.size w ((w.alloc o1).alloc o2) := fun o1 o2 => ((Below.refl _ _).alloc (Nat.le_refl _) _).alloc (by simp) _
  have HBEL := hide hbel
  clear hbel
  by_cases h1 : bl XT = []
  · rw [decide_eq_true h1] at q1 ⊢
    clear h1
    go_enter Tryz.func121, Tryz.ntmps121
    go_wp2_with fail
    go_ret
    exact ⟨rfl, HBEL.out _ _⟩
  rw [decide_eq_false h1] at q1 ⊢
  clear h1
  cases b with
  | true =>
    go_enter Tryz.func121, Tryz.ntmps121
    go_wp2_with fail
    go_ret
    exact ⟨rfl, HBEL.out _ _⟩
  | false =>
    by_cases h2 : am = 0
    · subst h2
      go_enter Tryz.func121, Tryz.ntmps121
      go_wp2_with fail
      go_ret
      refine ⟨ret_bool ?_, HBEL.out _ _⟩
      by_cases h : km = 0
      · subst h
        rfl
      · rw [decide_eq_false h]
        simp
        omega
    · rw [decide_eq_false h2]
      have h3 : ((am : Int) == 0) = false := beq_eq_false_iff_ne.2 (by omega)
      clear h2
      go_enter Tryz.func121, Tryz.ntmps121
      go_wp2_with fail
      go_ret
      exact ⟨rfl, HBEL.out _ _⟩
end Go.Proofs.YtholfdfjapgfbaaGreatDoor.Dm

/-
  ser's element.stable.
-/
namespace Go.Proofs.YtholfdfjapgfbaaGreatDoor.Dm
open Go.RowKit
open Utf1

set_option maxRecDepth 100000 in
set_option maxHeartbeats 16000000 in
theorem elem_stable (w : World) (nd : Nd) (ap : Option Addr) (am ac : Nat) (XN XT : ByteArray) (kp : Option Addr) (km kc : Nat) (p i b : Bool) (hXN : XN = ⟨nd.name.toArray⟩) (hXT : XT = ⟨nd.text.toArray⟩) (hne : nd.name ≠ []) (hnl : nd.name.length ≤ 281474976710656) (hkm : km = nd.kids.length) (hkb : km ≤ 9223372036854775807) (ha : ARow w ap am nd.attrs)
    (hkid : ∀ wx p' i', Below w.heap.size w wx → Calls Tryz.prog 16 #[.slice kp km kc, .agg #[.bool p', .bool i', .bool false]] wx fun e w' => e = .returned (.bool (stL p' i' false nd.kids)) ∧ Below wx.heap.size wx w') :
    Calls Tryz.prog 125 #[.agg #[.string XN, .slice ap am ac, .string XT, .slice kp km kc], .agg #[.bool p, .bool i, .bool b]] w fun e w' => e = .returned (.bool (stN p i b nd)) ∧ Below w.heap.size w w' := by
  have hst := stN_kids p i b nd
  rw [if_neg hne] at hst
  have hN : bl XN = nd.name := by rw [hXN]
  have hT : bl XT = nd.text := by rw [hXT]
  rw [← hN] at hst
  have hNl : XN.size ≤ 281474976710656 := by rw [hXN]; exact hnl
  have qT : XT.toList.isEmpty = nd.text.isEmpty := by rw [hXT, ByteArray.toList_eq]
  obtain ⟨w1, hw1⟩ : ∃ w1, w1 = (w.alloc (.cells #[.string XN, .slice ap am ac, .string XT, .slice kp km kc] 100)).alloc (.cells #[.bool p, .bool i, .bool b] 46) := ⟨_, rfl⟩
  have hb1 : Below w.heap.size w w1 := by rw [hw1]; exact ((Below.refl _ _).alloc (Nat.le_refl _) _).alloc (by simp) _
  have hold : ∀ j v, (w.alloc (.cells #[.string XN, .slice ap am ac, .string XT, .slice kp km kc] 100)).cell? ⟨w.heap.size, j, none⟩ = some v → w1.cell? ⟨w.heap.size, j, none⟩ = some v := by
    intro j v h
    rw [hw1]
    exact cell_keep h ((Below.refl _ _).alloc (Nat.le_refl _) _)
  have y0 : w1.cell? ⟨w.heap.size, 0, none⟩ = some (.string XN) := hold 0 _ (by rw [new_cell]; rfl)
  have y1 : w1.cell? ⟨w.heap.size, 1, none⟩ = some (.slice ap am ac) := hold 1 _ (by rw [new_cell]; rfl)
  have y2 : w1.cell? ⟨w.heap.size, 2, none⟩ = some (.string XT) := hold 2 _ (by rw [new_cell]; rfl)
  have y3 : w1.cell? ⟨w.heap.size, 3, none⟩ = some (.slice kp km kc) := hold 3 _ (by rw [new_cell]; rfl)
  have hsz : (w.alloc (.cells #[.string XN, .slice ap am ac, .string XT, .slice kp km kc] 100)).heap.size = w.heap.size + 1 := by simp
  have z0 : w1.cell? ⟨w.heap.size + 1, 0, none⟩ = some (.bool p) := by rw [hw1, ← hsz, new_cell]; rfl
  have z1 : w1.cell? ⟨w.heap.size + 1, 1, none⟩ = some (.bool i) := by rw [hw1, ← hsz, new_cell]; rfl
  have z2 : w1.cell? ⟨w.heap.size + 1, 2, none⟩ = some (.bool b) := by rw [hw1, ← hsz, new_cell]; rfl
  have HME := hide (fun w => mayBeElement_any XN w (by omega))
  have HMA := hide (mayBeAttrs_any ap am ac nd.attrs w1 (ha.below hb1))
  have HB1 := hide hb1
  have HK := hide (fun wx p' i' (hx : Below w.heap.size w wx) => hkid wx p' i' hx)
  have HKM : Hid (nd.kids.isEmpty = decide (km = 0)) := hide (by rw [hkm]; cases nd.kids <;> simp)
  have q2 := lit_eq XN [108, 105]
  have HBK := hide (fun w => block_any XN w)
  have HVD := hide (fun w => void_any XN w)
  have HWI := hide (fun wx => within_any p i b XN wx)
  obtain ⟨tE, htE⟩ : ∃ x, x = nd.text.isEmpty := ⟨_, rfl⟩
  obtain ⟨mE, hmE⟩ : ∃ x, x = mayE (bl XN) := ⟨_, rfl⟩
  obtain ⟨mA, hmA⟩ : ∃ x, x = mayA nd.attrs := ⟨_, rfl⟩
  obtain ⟨bk, hbk⟩ : ∃ x, x = decide (bl XN ∈ blocks) := ⟨_, rfl⟩
  obtain ⟨lq, hlq⟩ : ∃ x, x = decide (bl XN = [108, 105]) := ⟨_, rfl⟩
  have hvv : (if bl XN ∈ voids then nd.kids.isEmpty else stL (p || decide (bl XN = [112])) (itm i (bl XN)) false nd.kids) = if decide (bl XN ∈ voids) = true then decide (km = 0) else stL (p || decide (bl XN = [112])) (itm i (bl XN)) false nd.kids := by
    rw [HKM.out]
    by_cases h : bl XN ∈ voids
    · rw [if_pos h, if_pos (decide_eq_true h)]
    · rw [if_neg h, if_neg (by rw [decide_eq_false h]; decide)]
  rw [hvv, ← htE, ← hmE, ← hmA, ← hbk, ← hlq] at hst
  obtain ⟨vd, hvd⟩ : ∃ x, x = decide (bl XN ∈ voids) := ⟨_, rfl⟩
  obtain ⟨pp, hpp⟩ : ∃ x, x = (p || decide (bl XN = [112])) := ⟨_, rfl⟩
  obtain ⟨ii, hii⟩ : ∃ x, x = itm i (bl XN) := ⟨_, rfl⟩
  rw [← hvd, ← hpp, ← hii] at hst
  rw [← hpp, ← hii] at HWI
  rw [← hvd] at HVD
  rw [← hbk] at HBK
  rw [← hmE] at HME
  rw [← hmA] at HMA
  rw [← htE] at qT
  rw [← hlq] at q2
  have HST := hide hst
  have HKK := hide (fun wx (hx : Below w.heap.size w wx) => hkid wx pp ii hx)
  obtain ⟨sk, hsk⟩ : ∃ x, x = stL pp ii false nd.kids := ⟨_, rfl⟩
  rw [← hsk] at HST HKK
  clear hst hvv htE hmE hmA hbk hlq hvd hpp hii hsk hkid hold hsz hb1 hN hT hXN hXT hne hnl hNl ha HK HKM hkm
  cases tE with
  | false =>
    rw [HST.out]
    go_enter Tryz.func125, Tryz.ntmps125
    go_upto_region 1 with fail
    rw [← hw1]
    clear hw1
    go_wp2_with fail
    all_goals
      go_ret
      exact ⟨rfl, HB1.out⟩
  | true =>
  cases mE with
  | false =>
    rw [HST.out]
    go_enter Tryz.func125, Tryz.ntmps125
    go_upto_region 1 with fail
    rw [← hw1]
    clear hw1
    go_wp2_with fail
    refine (HME.out _).mono ?_
    rintro e w2 ⟨rfl, rfl⟩
    go_wp2_with fail
    all_goals
      go_ret
      exact ⟨rfl, HB1.out⟩
  | true =>
  have hbA : Hid (∀ w', Below w1.heap.size w1 w' → Below w.heap.size w w') := hide (fun w' h => bel2 HB1.out h)
  cases mA with
  | false =>
    rw [HST.out]
    go_enter Tryz.func125, Tryz.ntmps125
    go_upto_region 1 with fail
    rw [← hw1]
    clear hw1
    go_wp2_with fail
    refine (HME.out _).mono ?_
    rintro e w2 ⟨rfl, rfl⟩
    go_wp2_with fail
    refine HMA.out.mono ?_
    rintro e w3 ⟨rfl, hb3⟩
    have HB3 := hide (bel2 HB1.out hb3)
    clear hb3
    go_wp2_with fail
    all_goals
      go_ret
      exact ⟨rfl, HB3.out⟩
  | true =>
  have HST2 : Hid (stN p i b nd = (!((p && bk) || (i && lq)) && (if vd = true then decide (km = 0) else sk))) := hide (by rw [HST.out]; rfl)
  clear HST
  obtain ⟨R, hR⟩ : ∃ R, R = stN p i b nd := ⟨_, rfl⟩
  rw [← hR] at HST2 ⊢
  clear hR
  go_enter Tryz.func125, Tryz.ntmps125
  go_upto_region 1 with fail
  rw [← hw1]
  clear hw1
  go_wp2_with fail
  refine (HME.out _).mono ?_
  rintro e w2 ⟨rfl, rfl⟩
  clear HME
  go_wp2_with fail
  refine HMA.out.mono ?_
  rintro e w3 ⟨rfl, hb3⟩
  have HB3 := hide (bel2 HB1.out hb3)
  have y0 := cell_keep y0 hb3
  have y3 := cell_keep y3 hb3
  have z0 := cell_keep z0 hb3
  have z1 := cell_keep z1 hb3
  have z2 := cell_keep z2 hb3
  clear hb3 HMA y1 y2 HB1 hbA
  go_upto_region 3 with fail
  go_cut [35] from 20 (fun v35 wc => v35 = .bool ((p && bk) || (i && lq)) ∧ wc = w3)
  case first =>
    clear HKK HWI HVD HB3 y3
    cases p <;> cases bk <;> cases i <;> cases lq <;> (go_wp2_with fail; try (refine (HBK.out _).mono ?_; rintro e w4 ⟨rfl, rfl⟩; go_wp2_with fail)) <;> go_meet <;> (first | exact ⟨rfl, rfl⟩ | trace_state)
  case rest =>
    obtain ⟨rfl, rfl⟩ := hcut
    clear HBK q2
    generalize (p && bk || i && lq) = X at HST2 ⊢
    cases X with
    | true =>
      have HR : Hid (R = false) := hide HST2.out
      clear HST2
      go_wp2_with fail
      all_goals
        go_ret
        exact ⟨ret_bool HR.out.symm, HB3.out⟩
    | false =>
      cases vd with
      | true =>
        have HR : Hid (R = decide (km = 0)) := hide HST2.out
        clear HKK HWI HST2
        go_wp2_with fail
        refine (HVD.out _).mono ?_
        rintro e w5 ⟨rfl, rfl⟩
        go_wp2_with fail
        all_goals
          go_ret
          refine ⟨ret_bool ?_, HB3.out⟩
          rw [HR.out]
          by_cases h : km = 0
          · subst h
            rfl
          · rw [decide_eq_false h]
            simp
            omega
      | false =>
        have HR : Hid (R = sk) := hide HST2.out
        clear HST2
        go_wp2_with fail
        refine (HVD.out _).mono ?_
        rintro e w5 ⟨rfl, rfl⟩
        clear HVD
        have HWD := hide (HWI.out (World.drew w5))
        have HKX := hide (fun wx (hx : Below w5.heap.size w5 wx) => HKK.out wx (bel2 HB3.out hx))
        clear HWI HKK
        go_upto_region 7 with fail
        go_region_with (first | (go_at_call 120; refine HWD.out.mono ?_; rintro e wE ⟨rfl, hbE⟩; have y3 : (World.drew w5).cell? ⟨w.heap.size, 3, none⟩ = some (.slice kp km kc) := y3; have y3 := cell_keep y3 hbE; have HBE := hide (bel2 (bel_one w5) hbE); clear hbE) | (go_at_call 16; refine (HKX.out _ HBE.out).mono ?_; rintro e wF ⟨rfl, hbF⟩; have HF := hide (bel2 HB3.out (bel2 HBE.out hbF)); clear hbF))
        all_goals
          go_wp2_with fail
          go_ret
          exact ⟨ret_bool HR.out.symm, HF.out⟩
end Go.Proofs.YtholfdfjapgfbaaGreatDoor.Dm
