/-
  versoref03.SameAttrs at two rows that hold the same attributes: true.
-/
import Derived.Test.YtjmgcdeinjamiaaDoorB8
namespace Go.Proofs.YtjmgcdeinjamiaaDoor
open Go.RowKit
open Utf1

theorem attr_two : ∀ (l : List (List UInt8 × List UInt8)) (i : Nat) (p : List UInt8 × List UInt8), l[i]? = some p → (attrCells l)[i * 2]? = some (.string ⟨p.1.toArray⟩) ∧ (attrCells l)[i * 2 + 1]? = some (.string ⟨p.2.toArray⟩)
  | [], i, p, h => by simp at h
  | q :: r, 0, p, h => by
    have : q = p := by simpa using h
    subst this
    exact ⟨rfl, rfl⟩
  | q :: r, i + 1, p, h => by
    have h' : r[i]? = some p := by simpa using h
    rw [show (i + 1) * 2 = i * 2 + 1 + 1 by omega]
    exact attr_two r i p h'
theorem own_at {w : World} {base : Nat} {e : TypeId} {size : Nat} {v : Value} {n : Nat} {xs : List Value} (h : w.ownsRow base e size v n xs) (hn : 0 < n) : ∃ g c, v = .slice (some ⟨g, 0, none⟩) n c ∧ ∀ j, j < n * size → w.cell? ⟨g, j, none⟩ = xs[j]? := by
  obtain ⟨_, ⟨_, e⟩ | ⟨g, cap, cur, e, _⟩⟩ := id h
  · omega
  · subst e
    exact ⟨g, cap, rfl, fun j hj => h.cellAt j hj⟩
theorem own_most {w : World} {base : Nat} {e : TypeId} {size : Nat} {v : Value} {n : Nat} {xs : List Value} (h : w.ownsRow base e size v n xs) : n ≤ 9223372036854775807 := by
  obtain ⟨_, ⟨_, e⟩ | ⟨g, cap, cur, _, _, _, h1, h2, _⟩⟩ := h
  · omega
  · exact Nat.le_trans h1 h2

set_option maxHeartbeats 4000000 in
theorem sameAttrs_any (al : List (List UInt8 × List UInt8)) (w : World) (b1 b2 : Nat) (va vb : Value) (ha : w.ownsRow b1 34 2 va al.length (attrCells al)) (hb : w.ownsRow b2 34 2 vb al.length (attrCells al)) :
    Calls Tryd.prog 17 #[va, vb] w fun e w' => e = .returned (.bool true) ∧ ∃ n, w' = w.drewN n := by
  have hmax := own_most ha
  have HA : Hid (∀ i, i < al.length → ∃ g1 c1 g2 c2, va = .slice (some ⟨g1, 0, none⟩) al.length c1 ∧ vb = .slice (some ⟨g2, 0, none⟩) al.length c2 ∧ ∃ X Y : ByteArray, w.cell? ⟨g1, i * 2, none⟩ = some (.string X) ∧ w.cell? ⟨g1, i * 2 + 1, none⟩ = some (.string Y) ∧ w.cell? ⟨g2, i * 2, none⟩ = some (.string X) ∧ w.cell? ⟨g2, i * 2 + 1, none⟩ = some (.string Y)) := hide (by
    intro i hi
    obtain ⟨g1, c1, e1, k1⟩ := own_at ha (by omega)
    obtain ⟨g2, c2, e2, k2⟩ := own_at hb (by omega)
    have h := attr_two al i _ (List.getElem?_eq_getElem hi)
    exact ⟨g1, c1, g2, c2, e1, e2, _, _, (k1 _ (by omega)).trans h.1, (k1 _ (by omega)).trans h.2, (k2 _ (by omega)).trans h.1, (k2 _ (by omega)).trans h.2⟩)
  obtain ⟨pa, ca, rfl⟩ := own_len ha
  obtain ⟨pb, cb, rfl⟩ := own_len hb
  clear ha hb
  generalize al.length = n at hmax HA
  go_enter Tryd.func17, Tryd.ntmps17
  go_wp2_with fail
  go_loopg [5] n (fun g v wr => ∃ i k : Nat, i + g = n ∧ v = .int .i64 (i : Int) ∧ wr = w.drewN k)
  case atStart => exact ⟨0, 0, by omega, rfl, rfl⟩
  case round =>
    obtain ⟨i, k, hig, rfl, rfl⟩ := hrel
    by_cases hlt : i < n
    · obtain ⟨g1, c1, g2, c2, e1, e2, X, Y, k1, k2, k3, k4⟩ := HA.out i hlt
      injection e1 with e1 _ e3
      injection e2 with e2 _ e4
      subst e1 e2 e3 e4
      have k1 : (w.drewN k).cell? ⟨g1, i * 2, none⟩ = some (.string X) := k1
      have k2 : (w.drewN k).cell? ⟨g1, i * 2 + 1, none⟩ = some (.string Y) := k2
      have k3 : (w.drewN k).cell? ⟨g2, i * 2, none⟩ = some (.string X) := k3
      have k4 : (w.drewN k).cell? ⟨g2, i * 2 + 1, none⟩ = some (.string Y) := k4
      go_wp2_with fail
      go_region
      all_goals (go_wp2_with fail; go_roundg (gk - 1))
      case measure => omega
      case rel => exact ⟨i + 1, k + 1, by omega, by first | rfl | (rw [wrap64_in _ ⟨by omega, by omega⟩]; rfl) | simp, rfl⟩
    · go_wp2_with fail
      go_ret
      exact ⟨rfl, k, rfl⟩
end Go.Proofs.YtjmgcdeinjamiaaDoor
