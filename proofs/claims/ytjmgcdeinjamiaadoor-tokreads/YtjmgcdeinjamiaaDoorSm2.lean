/-
  versoref03.Same at two lists that hold the same tokens: true.
-/
import Derived.Test.YtjmgcdeinjamiaaDoorSm1
import Derived.BigQuiet
namespace Go.Proofs.YtjmgcdeinjamiaaDoor
open Go.RowKit
open Utf1

set_option maxRecDepth 100000 in
set_option maxHeartbeats 8000000 in
theorem same_any (l1 l2 : List (Tk × Value)) (hl : l1.map Prod.fst = l2.map Prod.fst) (w : World) (b1 b2 : Nat) (v1 v2 : Value) (h1 : ToksAt w b1 v1 l1) (h2 : ToksAt w b2 v2 l2) :
    Calls Tryd.prog 10 #[v1, v2] w fun e w' => e = .returned (.bool true) ∧ ∃ n, w' = w.drewN n := by
  have hmax := own_most h1.1
  have hlen : l2.length = l1.length := by
    have := congrArg List.length hl
    simpa using this.symm
  have HA : Hid (∀ i, i < l1.length → ∃ g1 c1 g2 c2, v1 = .slice (some ⟨g1, 0, none⟩) l1.length c1 ∧ v2 = .slice (some ⟨g2, 0, none⟩) l1.length c2 ∧ ∃ (k : Int) (X : ByteArray) (p1 p2 : Option Addr) (m1 m2 d1 d2 : Nat) (cl : Bool) (Y : ByteArray),
      w.cell? ⟨g1, i * 5, none⟩ = some (.int .i64 k) ∧ w.cell? ⟨g1, i * 5 + 1, none⟩ = some (.string X) ∧ w.cell? ⟨g1, i * 5 + 2, none⟩ = some (.slice p1 m1 d1) ∧ w.cell? ⟨g1, i * 5 + 3, none⟩ = some (.bool cl) ∧ w.cell? ⟨g1, i * 5 + 4, none⟩ = some (.string Y) ∧
      w.cell? ⟨g2, i * 5, none⟩ = some (.int .i64 k) ∧ w.cell? ⟨g2, i * 5 + 1, none⟩ = some (.string X) ∧ w.cell? ⟨g2, i * 5 + 2, none⟩ = some (.slice p2 m2 d2) ∧ w.cell? ⟨g2, i * 5 + 3, none⟩ = some (.bool cl) ∧ w.cell? ⟨g2, i * 5 + 4, none⟩ = some (.string Y) ∧
      ∀ k n, Calls Tryd.prog 17 #[.slice p1 m1 d1, .slice p2 m2 d2] ((w.drewN k).drewN n) fun e w' => e = .returned (.bool true) ∧ ∃ m, w' = ((w.drewN k).drewN n).drewN m) := hide (by
    intro i hi
    obtain ⟨g1, c1, e1, -⟩ := toks_slice h1 (by intro e; rw [e] at hi; simp at hi)
    obtain ⟨g2, c2, e2, -⟩ := toks_slice h2 (by intro e; rw [e] at hlen; simp at hlen; omega)
    rw [hlen] at e2
    subst e1 e2
    have k1 : l1[i]? = some (l1[i]'hi) := List.getElem?_eq_getElem _
    have k2 : l2[i]? = some (l2[i]'(by omega)) := List.getElem?_eq_getElem _
    have o1 := h1.2 (l1[i]'hi) (List.getElem_mem ..)
    have o2 := h2.2 (l2[i]'(by omega)) (List.getElem_mem ..)
    have e : (l1[i]'hi).1 = (l2[i]'(by omega)).1 := by
      have := congrArg (fun l => l[i]?) hl
      simpa [k1, k2] using this
    generalize l1[i]'hi = q1 at k1 o1 e
    generalize l2[i]'(by omega) = q2 at k2 o2 e
    obtain ⟨t, a1⟩ := q1
    obtain ⟨t2, a2⟩ := q2
    have e : t = t2 := e
    subst e
    obtain ⟨p1, m1, d1, rfl⟩ := own_slice o1
    obtain ⟨p2, m2, d2, rfl⟩ := own_slice o2
    exact ⟨g1, c1, g2, c2, rfl, rfl, _, _, p1, p2, m1, m2, d1, d2, _, _, tok_at h1 i _ k1 0 (by decide), tok_at h1 i _ k1 1 (by decide), tok_at h1 i _ k1 2 (by decide), tok_at h1 i _ k1 3 (by decide), tok_at h1 i _ k1 4 (by decide),
      tok_at h2 i _ k2 0 (by decide), tok_at h2 i _ k2 1 (by decide), tok_at h2 i _ k2 2 (by decide), tok_at h2 i _ k2 3 (by decide), tok_at h2 i _ k2 4 (by decide), fun k n => sameAttrs_any t.attrs ((w.drewN k).drewN n) b1 b2 _ _ o1 o2⟩)
  obtain ⟨pa, ca, rfl⟩ := own_len h1.1
  obtain ⟨pb, cb, rfl⟩ := own_len h2.1
  rw [hlen] at HA ⊢
  clear h1 h2 hl hlen
  generalize l1.length = n at hmax HA
  go_enter Tryd.func10, Tryd.ntmps10
  go_wp2_with fail
  go_loopg [5] n (fun g v wr => ∃ i : Nat, i + g = n ∧ v = .int .i64 (i : Int) ∧ Hid (∃ k, wr = w.drewN k))
  case atStart => exact ⟨0, by omega, rfl, hide ⟨0, rfl⟩⟩
  case round =>
    obtain ⟨i, hig, rfl, HK⟩ := hrel
    by_cases hlt : i < n
    · obtain ⟨g1, c1, g2, c2, e1, e2, kd, X, p1, p2, m1, m2, d1, d2, cl, Y, x0, x1, x2, x3, x4, y0, y1, y2, y3, y4, hsame⟩ := HA.out i hlt
      injection e1 with e1 _ e3
      injection e2 with e2 _ e4
      subst e1 e2 e3 e4
      have x0 : wr.cell? ⟨g1, i * 5, none⟩ = some (.int .i64 kd) := by
        obtain ⟨k, hk⟩ := HK.out
        rw [hk]
        exact x0
      have x1 : wr.cell? ⟨g1, i * 5 + 1, none⟩ = some (.string X) := by
        obtain ⟨k, hk⟩ := HK.out
        rw [hk]
        exact x1
      have x2 : wr.cell? ⟨g1, i * 5 + 2, none⟩ = some (.slice p1 m1 d1) := by
        obtain ⟨k, hk⟩ := HK.out
        rw [hk]
        exact x2
      have x3 : wr.cell? ⟨g1, i * 5 + 3, none⟩ = some (.bool cl) := by
        obtain ⟨k, hk⟩ := HK.out
        rw [hk]
        exact x3
      have x4 : wr.cell? ⟨g1, i * 5 + 4, none⟩ = some (.string Y) := by
        obtain ⟨k, hk⟩ := HK.out
        rw [hk]
        exact x4
      have y0 : wr.cell? ⟨g2, i * 5, none⟩ = some (.int .i64 kd) := by
        obtain ⟨k, hk⟩ := HK.out
        rw [hk]
        exact y0
      have y1 : wr.cell? ⟨g2, i * 5 + 1, none⟩ = some (.string X) := by
        obtain ⟨k, hk⟩ := HK.out
        rw [hk]
        exact y1
      have y2 : wr.cell? ⟨g2, i * 5 + 2, none⟩ = some (.slice p2 m2 d2) := by
        obtain ⟨k, hk⟩ := HK.out
        rw [hk]
        exact y2
      have y3 : wr.cell? ⟨g2, i * 5 + 3, none⟩ = some (.bool cl) := by
        obtain ⟨k, hk⟩ := HK.out
        rw [hk]
        exact y3
      have y4 : wr.cell? ⟨g2, i * 5 + 4, none⟩ = some (.string Y) := by
        obtain ⟨k, hk⟩ := HK.out
        rw [hk]
        exact y4
      have HSM : Hid (∀ n, Calls Tryd.prog 17 #[.slice p1 m1 d1, .slice p2 m2 d2] (wr.drewN n) fun e w' => e = .returned (.bool true) ∧ ∃ m, w' = (wr.drewN n).drewN m) := hide (by
        obtain ⟨k, hk⟩ := HK.out
        rw [hk]
        exact hsame k)
      clear hsame HA
      go_wp2_with fail
      go_quiet ((go_at_call 17; exact Calls.quiet_of (HSM.out _)))
      go_wp2_with fail
      go_roundg (gk - 1)
      case measure => omega
      case rel => 
        refine ⟨i + 1, by omega, by first | rfl | (rw [wrap64_in _ ⟨by omega, by omega⟩]; rfl) | simp, hide ?_⟩
        obtain ⟨k, hk⟩ := HK.out
        rw [hk]
        exact ⟨_, World.drewN_drewN ..⟩
    · go_wp2_with fail
      go_ret
      exact ⟨rfl, HK.out⟩
end Go.Proofs.YtjmgcdeinjamiaaDoor
