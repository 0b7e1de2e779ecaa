/-
  Trees that are read alone: what a slice of nodes holds; pages, weights, counts.
-/
import Derived.Test.YtbcadeikdmlpoaaGreatDoorG3
import Derived.Deep.RegionWith
import Derived.Deep.Cut
import Derived.RegionTactic
import Derived.Laws.Rows
import Derived.Lib.AppendStr
import Derived.Lib.UnsafeStr
import Derived.WalkMore
import Derived.Test.YtbcadeikdmlpoaaGreatDoorM5
namespace Utf1
/-- An attribute, written. -/
def atH (kv : List UInt8 × List UInt8) : List UInt8 := [32] ++ kv.1 ++ [61, 34] ++ esc true kv.2 ++ [34]
def atsH : List (List UInt8 × List UInt8) → List UInt8
  | [] => []
  | p :: r => atH p ++ atsH r
mutual
/-- A node, written. -/
def htN : Nd → List UInt8
  | .mk n a t k => if n = [] then esc false t else [60] ++ n ++ atsH a ++ [62] ++ (if n ∈ voids then [] else htL k ++ ([60, 47] ++ n ++ [62]))
def htL : List Nd → List UInt8
  | [] => []
  | n :: r => htN n ++ htL r
end
/-- How much attributes, nodes weigh. -/
def waL : List (List UInt8 × List UInt8) → Nat
  | [] => 0
  | p :: r => 1 + p.1.length + p.2.length + waL r
mutual
def wsN : Nd → Nat
  | .mk n a t k => 1 + n.length + t.length + waL a + wsL k
def wsL : List Nd → Nat
  | [] => 0
  | n :: r => wsN n + wsL r
end
mutual
/-- How many nodes there are. -/
def ncN : Nd → Nat
  | .mk _ _ _ k => 1 + ncL k
def ncL : List Nd → Nat
  | [] => 0
  | n :: r => ncN n + ncL r
end
mutual
/-- How many elements stand within one another. -/
def dpN : Nd → Nat
  | .mk n _ _ k => dpL k + (if n = [] then 0 else 1)
def dpL : List Nd → Nat
  | [] => 0
  | n :: r => max (dpN n) (dpL r)
end
theorem htN_kids (n : Nd) : htN n = if n.name = [] then esc false n.text else [60] ++ n.name ++ atsH n.attrs ++ [62] ++ (if n.name ∈ voids then [] else htL n.kids ++ ([60, 47] ++ n.name ++ [62])) := by
  cases n
  rw [htN]
  rfl
theorem wsN_kids (n : Nd) : wsN n = 1 + n.name.length + n.text.length + waL n.attrs + wsL n.kids := by
  cases n
  rw [wsN]
  rfl
theorem ncN_kids (n : Nd) : ncN n = 1 + ncL n.kids := by
  cases n
  rw [ncN]
  rfl
theorem dpN_kids (n : Nd) : dpN n = dpL n.kids + (if n.name = [] then 0 else 1) := by
  cases n
  rw [dpN]
  rfl
theorem htL_app : ∀ a b : List Nd, htL (a ++ b) = htL a ++ htL b
  | [], b => by simp [htL]
  | n :: a, b => by rw [List.cons_append, htL, htL, htL_app a b, List.append_assoc]
theorem wsL_app : ∀ a b : List Nd, wsL (a ++ b) = wsL a + wsL b
  | [], b => by simp [wsL]
  | n :: a, b => by
    rw [List.cons_append, wsL, wsL, wsL_app a b]
    omega
theorem ncL_app : ∀ a b : List Nd, ncL (a ++ b) = ncL a + ncL b
  | [], b => by simp [ncL]
  | n :: a, b => by
    rw [List.cons_append, ncL, ncL, ncL_app a b]
    omega
theorem dpL_app : ∀ a b : List Nd, dpL (a ++ b) = max (dpL a) (dpL b)
  | [], b => by simp [dpL]
  | n :: a, b => by
    rw [List.cons_append, dpL, dpL, dpL_app a b]
    omega
theorem atsH_app : ∀ a b, atsH (a ++ b) = atsH a ++ atsH b
  | [], b => by simp [atsH]
  | n :: a, b => by rw [List.cons_append, atsH, atsH, atsH_app a b, List.append_assoc]
theorem waL_app : ∀ a b, waL (a ++ b) = waL a + waL b
  | [], b => by simp [waL]
  | n :: a, b => by
    rw [List.cons_append, waL, waL, waL_app a b]
    omega
theorem nc_len : ∀ l : List Nd, l.length ≤ ncL l
  | [] => Nat.le_refl _
  | n :: r => by
    rw [ncL, ncN_kids, List.length_cons]
    have := nc_len r
    omega
theorem wa_len : ∀ l, List.length l ≤ waL l
  | [] => Nat.le_refl _
  | n :: r => by
    rw [waL, List.length_cons]
    have := wa_len r
    omega
theorem atH_len (p) : (atH p).length ≤ 6 * (1 + p.1.length + p.2.length) := by
  have := (esc_lens true p.2).2
  simp only [atH, List.length_append, List.length_cons, List.length_nil]
  omega
theorem atsH_len : ∀ l, (atsH l).length ≤ 6 * waL l
  | [] => Nat.le_refl _
  | p :: r => by
    rw [atsH, waL, List.length_append]
    have := atsH_len r
    have := atH_len p
    omega
mutual
theorem ncN_ws : ∀ n : Nd, ncN n ≤ wsN n
  | .mk n a t k => by
    rw [ncN, wsN]
    have := ncL_ws k
    omega
theorem ncL_ws : ∀ l : List Nd, ncL l ≤ wsL l
  | [] => Nat.le_refl _
  | n :: r => by
    rw [ncL, wsL]
    have := ncN_ws n
    have := ncL_ws r
    omega
end
mutual
theorem dpN_nc : ∀ n : Nd, dpN n ≤ ncN n
  | .mk n a t k => by
    rw [dpN, ncN]
    have := dpL_nc k
    split <;> omega
theorem dpL_nc : ∀ l : List Nd, dpL l ≤ ncL l
  | [] => Nat.le_refl _
  | n :: r => by
    rw [dpL, ncL]
    have := dpN_nc n
    have := dpL_nc r
    omega
end
mutual
theorem htN_len : ∀ n : Nd, (htN n).length ≤ 6 * wsN n
  | .mk n a t k => by
    rw [htN, wsN]
    have h1 := htL_len k
    have h2 := atsH_len a
    have h3 := (esc_lens false t).2
    split
    · omega
    · split
      · simp only [List.length_append, List.length_cons, List.length_nil]
        omega
      · simp only [List.length_append, List.length_cons, List.length_nil]
        omega
theorem htL_len : ∀ l : List Nd, (htL l).length ≤ 6 * wsL l
  | [] => Nat.le_refl _
  | n :: r => by
    rw [htL, wsL, List.length_append]
    have := htN_len n
    have := htL_len r
    omega
end
end Utf1
namespace Go.Proofs.YtbcadeikdmlpoaaGreatDoor.Dm
open Go.RowKit
open Utf1

/-- A slice holds attributes. -/
def ARow (w : World) (p : Option Addr) (m : Nat) (a : List (List UInt8 × List UInt8)) : Prop := (m = a.length ∧ m ≤ 9223372036854775807) ∧ ∀ i kv, a[i]? = some kv → ∃ b off, p = some ⟨b, off, none⟩ ∧ w.cell? ⟨b, off + i * 2, none⟩ = some (.string ⟨kv.1.toArray⟩) ∧ w.cell? ⟨b, off + i * 2 + 1, none⟩ = some (.string ⟨kv.2.toArray⟩) ∧ kv.1.length ≤ 281474976710656 ∧ kv.2.length ≤ 281474976710656
/-- A slice holds nodes, so many within one another at most. -/
def NAtD (w : World) : Nat → Value → List Nd → Prop
  | 0, _, _ => False
  | d + 1, v, ns => ∃ p c, v = .slice p ns.length c ∧ ns.length ≤ 9223372036854775807 ∧ ∀ i nd, ns[i]? = some nd → ∃ g off ap am ac kp km kc, p = some ⟨g, off, none⟩ ∧ w.cell? ⟨g, off + i * 4, none⟩ = some (.string ⟨nd.name.toArray⟩) ∧ w.cell? ⟨g, off + i * 4 + 1, none⟩ = some (.slice ap am ac) ∧ w.cell? ⟨g, off + i * 4 + 2, none⟩ = some (.string ⟨nd.text.toArray⟩) ∧ w.cell? ⟨g, off + i * 4 + 3, none⟩ = some (.slice kp km kc) ∧ (nd.name.length ≤ 281474976710656 ∧ nd.text.length ≤ 281474976710656) ∧ ARow w ap am nd.attrs ∧ NAtD w d (.slice kp km kc) nd.kids
theorem ARow.below {w w' : World} {p : Option Addr} {m : Nat} {a : List (List UInt8 × List UInt8)} (h : ARow w p m a) (hb : Below w.heap.size w w') : ARow w' p m a := by
  refine ⟨h.1, ?_⟩
  intro i kv hi
  obtain ⟨b, off, hp, x0, x1, h2⟩ := h.2 i kv hi
  exact ⟨b, off, hp, cell_keep x0 hb, cell_keep x1 hb, h2⟩
theorem NAtD.below {w w' : World} (hb : Below w.heap.size w w') : ∀ {d : Nat} {v : Value} {ns : List Nd}, NAtD w d v ns → NAtD w' d v ns
  | 0, _, _, h => h.elim
  | d + 1, v, ns, h => by
    obtain ⟨p, c, hv, hl, hn⟩ := h
    refine ⟨p, c, hv, hl, ?_⟩
    intro i nd hi
    obtain ⟨g, off, ap, am, ac, kp, km, kc, hp, x0, x1, x2, x3, hs, ha, hk⟩ := hn i nd hi
    exact ⟨g, off, ap, am, ac, kp, km, kc, hp, cell_keep x0 hb, cell_keep x1 hb, cell_keep x2 hb, cell_keep x3 hb, hs, ha.below hb, NAtD.below hb hk⟩
theorem NAtD.more {w : World} : ∀ {d d' : Nat} {v : Value} {ns : List Nd}, NAtD w d v ns → d ≤ d' → NAtD w d' v ns
  | 0, _, _, _, h, _ => h.elim
  | d + 1, 0, _, _, _, hd => by omega
  | d + 1, d' + 1, v, ns, h, hd => by
    obtain ⟨p, c, hv, hl, hn⟩ := h
    refine ⟨p, c, hv, hl, ?_⟩
    intro i nd hi
    obtain ⟨g, off, ap, am, ac, kp, km, kc, hp, x0, x1, x2, x3, hs, ha, hk⟩ := hn i nd hi
    exact ⟨g, off, ap, am, ac, kp, km, kc, hp, x0, x1, x2, x3, hs, ha, NAtD.more hk (by omega)⟩
/-- A slice holds nodes. -/
def NAt (w : World) (v : Value) (ns : List Nd) : Prop := ∃ d, NAtD w d v ns
theorem NAt.below {w w' : World} {v : Value} {ns : List Nd} (h : NAt w v ns) (hb : Below w.heap.size w w') : NAt w' v ns := by
  obtain ⟨d, h⟩ := h
  exact ⟨d, h.below hb⟩
theorem nat_nil (w : World) : NAt w (.slice none 0 0) [] := ⟨1, none, 0, rfl, by decide, fun i nd h => by simp at h⟩
theorem arow_nil (w : World) : ARow w none 0 [] := ⟨⟨rfl, by decide⟩, fun i kv h => by simp at h⟩
theorem nm_empty (l : List UInt8) : (⟨l.toArray⟩ : ByteArray).toList.isEmpty = decide (l = []) := by
  rw [ByteArray.toList_eq]
  show l.isEmpty = _
  cases l <;> simp
end Go.Proofs.YtbcadeikdmlpoaaGreatDoor.Dm
