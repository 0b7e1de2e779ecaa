/-
  The document's Same, at the program's tree and at the document's.
-/
import Derived.Test.YtkdppcpkigpmdaaR30
import Derived.BigQuiet
namespace Go.Proofs.Ytkdppcpkigpmdaa
open Go.RowKit
open Utf1

theorem attr_two4 : ∀ (l : List (List UInt8 × List UInt8)) (i : Nat) (p : List UInt8 × List UInt8), l[i]? = some p → (attrCells l)[i * 2]? = some (.string ⟨p.1.toArray⟩) ∧ (attrCells l)[i * 2 + 1]? = some (.string ⟨p.2.toArray⟩)
  | [], i, p, h => by simp at h
  | q :: r, 0, p, h => by
    have : q = p := by simpa using h
    subst this
    exact ⟨rfl, rfl⟩
  | q :: r, i + 1, p, h => by
    have h' : r[i]? = some p := by simpa using h
    rw [show (i + 1) * 2 = i * 2 + 1 + 1 by omega]
    exact attr_two4 r i p h'

theorem rat_inv {w0 w : World} {base : Nat} {v : Value} {ns : List Nd} {fp : List Nat} (h : RAt w0 w base v ns fp) : ∃ l f, ns = l.map Prod.fst ∧ fp = blk v ++ f ∧ w.ownsRow base 40 4 v l.length (ndCells l) ∧ RAll w0 w base l f := by
  cases h with
  | mk v l fp row all => exact ⟨l, fp, rfl, rfl, row, all⟩
theorem rall_at {w0 w : World} {base : Nat} : ∀ {l : List (Nd × Value × Value)} {fp : List Nat}, RAll w0 w base l fp → ∀ (i : Nat) (q : Nd × Value × Value), l[i]? = some q → ∃ p m c f, q.2.1 = .slice p m c ∧ AttrRow w0 p m q.1.attrs ∧ RAt w0 w base q.2.2 q.1.kids f
  | _, _, .nil, i, q, h => by simp at h
  | _, _, .cons n p m c kv l fp fps ha hk hl, 0, q, h => by
    have : (n, Value.slice p m c, kv) = q := by simpa using h
    subst this
    exact ⟨p, m, c, fp, rfl, ha, hk⟩
  | _, _, .cons n p m c kv l fp fps ha hk hl, i + 1, q, h => rall_at hl i q (by simpa using h)
/-- What is read of a node of a row. -/
theorem rat_node {w0 w : World} {base : Nat} {v : Value} {ns : List Nd} {fp : List Nat} (h : RAt w0 w base v ns fp) : ∃ p c, v = .slice p ns.length c ∧ ∀ i nd, ns[i]? = some nd → ∃ g ap am ac kp km kc f, p = some ⟨g, 0, none⟩ ∧ w.cell? ⟨g, i * 4, none⟩ = some (.string ⟨nd.name.toArray⟩) ∧ w.cell? ⟨g, i * 4 + 1, none⟩ = some (.slice ap am ac) ∧ w.cell? ⟨g, i * 4 + 2, none⟩ = some (.string ⟨nd.text.toArray⟩) ∧ w.cell? ⟨g, i * 4 + 3, none⟩ = some (.slice kp km kc) ∧ RAt w0 w base (.slice kp km kc) nd.kids f ∧ AttrRow w0 ap am nd.attrs := by
  obtain ⟨l, f, rfl, rfl, hro, hall⟩ := rat_inv h
  obtain ⟨p, c, rfl⟩ := own_len hro
  refine ⟨p, c, by rw [List.length_map], ?_⟩
  intro i nd hi
  rw [List.getElem?_map] at hi
  cases hp : l[i]? with
  | none => rw [hp] at hi; cases hi
  | some q =>
    rw [hp] at hi
    have e : q.1 = nd := by simpa using hi
    have hil : i < l.length := (List.getElem?_eq_some_iff.1 hp).1
    obtain ⟨g, cap, e2, hcell⟩ := own_at hro (by omega)
    cases e2
    obtain ⟨ap, am, ac, f2, hq, ha, hk⟩ := rall_at hall i q hp
    obtain ⟨nd', av, kv⟩ := q
    subst e
    have hq : av = .slice ap am ac := hq
    subst hq
    have hk : RAt w0 w base kv nd'.kids f2 := hk
    obtain ⟨k, fk, _, _, hrk, _⟩ := rat_inv hk
    obtain ⟨kp, km, kc, rfl⟩ := own_slice hrk
    have hat := fun j hj => (hcell (i * 4 + j) (by omega)).trans (ndCells_at l i _ hp j hj)
    exact ⟨g, ap, am, ac, kp, km, kc, f2, rfl, hat 0 (by decide), hat 1 (by decide), hat 2 (by decide), hat 3 (by decide), hk, ha⟩

set_option maxHeartbeats 4000000 in
theorem sameAttrs_row (al : List (List UInt8 × List UInt8)) (w : World) (b1 : Nat) (va : Value) (pb : Option Addr) (mb cb : Nat) (ha : w.ownsRow b1 71 2 va al.length (attrCells al)) (hb : AttrRow w pb mb al) :
    Calls Try.prog 27 #[va, .slice pb mb cb] w fun e w' => e = .returned (.bool true) ∧ ∃ n, w' = w.drewN n := by
  have hmax := own_most ha
  have HA : Hid (∀ i, i < al.length → ∃ g1 c1 g2 off, va = .slice (some ⟨g1, 0, none⟩) al.length c1 ∧ pb = some ⟨g2, off, none⟩ ∧ ∃ X Y : ByteArray, w.cell? ⟨g1, i * 2, none⟩ = some (.string X) ∧ w.cell? ⟨g1, i * 2 + 1, none⟩ = some (.string Y) ∧ w.cell? ⟨g2, off + i * 2, none⟩ = some (.string X) ∧ w.cell? ⟨g2, off + i * 2 + 1, none⟩ = some (.string Y)) := hide (by
    intro i hi
    obtain ⟨g1, c1, e1, k1⟩ := own_at ha (by omega)
    have hg := List.getElem?_eq_getElem hi
    obtain ⟨g2, off, e2, k2, k3, -⟩ := hb.2 i _ hg
    have h := attr_two4 al i _ hg
    exact ⟨g1, c1, g2, off, e1, e2, _, _, (k1 _ (by omega)).trans h.1, (k1 _ (by omega)).trans h.2, k2, k3⟩)
  obtain ⟨pa, ca, rfl⟩ := own_len ha
  obtain rfl := hb.1
  clear ha hb
  generalize al.length = n at hmax HA
  go_enter Try.func27, Try.ntmps27
  go_wp2_with fail
  go_loopg [5] n (fun g v wr => ∃ i k : Nat, i + g = n ∧ v = .int .i64 (i : Int) ∧ wr = w.drewN k)
  case atStart => exact ⟨0, 0, by omega, rfl, rfl⟩
  case round =>
    obtain ⟨i, k, hig, rfl, rfl⟩ := hrel
    by_cases hlt : i < n
    · obtain ⟨g1, c1, g2, off, e1, e2, X, Y, k1, k2, k3, k4⟩ := HA.out i hlt
      injection e1 with e1 _ e3
      subst e1 e2 e3
      have k1 : (w.drewN k).cell? ⟨g1, i * 2, none⟩ = some (.string X) := k1
      have k2 : (w.drewN k).cell? ⟨g1, i * 2 + 1, none⟩ = some (.string Y) := k2
      have k3 : (w.drewN k).cell? ⟨g2, off + i * 2, none⟩ = some (.string X) := k3
      have k4 : (w.drewN k).cell? ⟨g2, off + i * 2 + 1, none⟩ = some (.string Y) := k4
      go_wp2_with fail
      go_region
      all_goals (go_wp2_with fail; go_roundg (gk - 1))
      case measure => omega
      case rel => exact ⟨i + 1, k + 1, by omega, by first | rfl | (rw [wrap64_in _ ⟨by omega, by omega⟩]; rfl) | simp, rfl⟩
    · go_wp2_with fail
      go_ret
      exact ⟨rfl, k, rfl⟩

set_option maxRecDepth 100000 in
set_option maxHeartbeats 8000000 in
theorem same_tree (w0 w : World) (b1 b2 : Nat) (hb0 : Below w0.heap.size w0 w) : ∀ (M : Nat) (v1 v2 : Value) (ns : List Nd) (f1 f2 : List Nat), cntL ns ≤ M → KAt w b1 v1 ns f1 → RAt w0 w b2 v2 ns f2 →
    ∀ n, Calls Try.prog 13 #[v1, v2] (w.drewN n) fun e w' => e = .returned (.bool true) ∧ ∃ m, w' = (w.drewN n).drewN m := by
  intro M
  induction M using Nat.strongRecOn with
  | _ M ih =>
  intro v1 v2 ns f1 f2 hM hk hr n
  have hmax : ns.length ≤ 9223372036854775807 := by
    obtain ⟨l, f, rfl, _, hro, _⟩ := kat_inv hk
    rw [List.length_map]
    exact own_most hro
  obtain ⟨pa, ca, rfl, hn1⟩ := kat_node hk
  obtain ⟨pb, cb, rfl, hn2⟩ := rat_node hr
  have HA : Hid (∀ i, i < ns.length → ∃ g1 g2, pa = some ⟨g1, 0, none⟩ ∧ pb = some ⟨g2, 0, none⟩ ∧ ∃ (X : ByteArray) (p1 p2 : Option Addr) (m1 m2 d1 d2 : Nat) (Y : ByteArray) (q1 q2 : Option Addr) (k1 k2 c1 c2 : Nat),
      w.cell? ⟨g1, i * 4, none⟩ = some (.string X) ∧ w.cell? ⟨g1, i * 4 + 1, none⟩ = some (.slice p1 m1 d1) ∧ w.cell? ⟨g1, i * 4 + 2, none⟩ = some (.string Y) ∧ w.cell? ⟨g1, i * 4 + 3, none⟩ = some (.slice q1 k1 c1) ∧
      w.cell? ⟨g2, i * 4, none⟩ = some (.string X) ∧ w.cell? ⟨g2, i * 4 + 1, none⟩ = some (.slice p2 m2 d2) ∧ w.cell? ⟨g2, i * 4 + 2, none⟩ = some (.string Y) ∧ w.cell? ⟨g2, i * 4 + 3, none⟩ = some (.slice q2 k2 c2) ∧
      (∀ k n, Calls Try.prog 27 #[.slice p1 m1 d1, .slice p2 m2 d2] ((w.drewN k).drewN n) fun e w' => e = .returned (.bool true) ∧ ∃ m, w' = ((w.drewN k).drewN n).drewN m) ∧
      (∀ k n, Calls Try.prog 13 #[.slice q1 k1 c1, .slice q2 k2 c2] ((w.drewN k).drewN n) fun e w' => e = .returned (.bool true) ∧ ∃ m, w' = ((w.drewN k).drewN n).drewN m)) := hide (by
    intro i hi
    have hg := List.getElem?_eq_getElem hi
    generalize ns[i] = nd at hg
    obtain ⟨g1, p1, m1, d1, q1, k1, c1, fa, e1, x0, x1, x2, x3, hka, ho⟩ := hn1 i nd hg
    obtain ⟨g2, p2, m2, d2, q2, k2, c2, fb, e2, y0, y1, y2, y3, hra, ht⟩ := hn2 i nd hg
    refine ⟨g1, g2, e1, e2, _, p1, p2, m1, m2, d1, d2, _, q1, q2, k1, k2, c1, c2, x0, x1, x2, x3, y0, y1, y2, y3, ?_, ?_⟩
    · intro k n
      have hat := (ht.below hb0).below (bel2 (bel_drewN w k) (bel_drewN _ n))
      exact sameAttrs_row nd.attrs ((w.drewN k).drewN n) b1 _ p2 m2 d2 ho hat
    · intro k n
      have hc : cntL nd.kids < M := by
        have hmem : nd ∈ ns := List.mem_of_getElem? hg
        obtain ⟨a, b, rfl⟩ := List.append_of_mem hmem
        rw [cntL_app] at hM
        have e3 : cntL (nd :: b) = cntN nd + cntL b := rfl
        rw [e3, cntN_kids] at hM
        omega
      have := ih (cntL nd.kids) hc _ _ nd.kids fa fb (Nat.le_refl _) hka hra (k + n)
      rw [← World.drewN_drewN] at this
      exact this)
  clear hk hr hn1 hn2 ih hM
  generalize ns.length = N at hmax HA
  go_enter Try.func13, Try.ntmps13
  go_wp2_with fail
  go_loopg [5] N (fun g v wr => ∃ i : Nat, i + g = N ∧ v = .int .i64 (i : Int) ∧ Hid (∃ k, wr = (w.drewN n).drewN k))
  case atStart => exact ⟨0, by omega, rfl, hide ⟨0, rfl⟩⟩
  case round =>
    obtain ⟨i, hig, rfl, HK⟩ := hrel
    by_cases hlt : i < N
    · obtain ⟨g1, g2, e1, e2, X, p1, p2, m1, m2, d1, d2, Y, q1, q2, k1, k2, c1, c2, x0, x1, x2, x3, y0, y1, y2, y3, hsa, hsm⟩ := HA.out i hlt
      subst e1 e2
      have HC : Hid (∀ a v, w.cell? a = some v → wr.cell? a = some v) := hide (by
        obtain ⟨k, hk⟩ := HK.out
        rw [hk]
        exact fun a v h => h)
      have x0 := HC.out _ _ x0
      have x1 := HC.out _ _ x1
      have x2 := HC.out _ _ x2
      have x3 := HC.out _ _ x3
      have y0 := HC.out _ _ y0
      have y1 := HC.out _ _ y1
      have y2 := HC.out _ _ y2
      have y3 := HC.out _ _ y3
      have HSA : Hid (∀ n, Calls Try.prog 27 #[.slice p1 m1 d1, .slice p2 m2 d2] (wr.drewN n) fun e w' => e = .returned (.bool true) ∧ ∃ m, w' = (wr.drewN n).drewN m) := hide (by
        obtain ⟨k, hk⟩ := HK.out
        rw [hk, World.drewN_drewN]
        exact hsa _)
      have HSM : Hid (∀ n, Calls Try.prog 13 #[.slice q1 k1 c1, .slice q2 k2 c2] (wr.drewN n) fun e w' => e = .returned (.bool true) ∧ ∃ m, w' = (wr.drewN n).drewN m) := hide (by
        obtain ⟨k, hk⟩ := HK.out
        rw [hk, World.drewN_drewN]
        exact hsm _)
      clear hsa hsm HA HC
      go_wp2_with fail
      go_quiet (first | (go_at_call 27; exact Calls.quiet_of (HSA.out _)) | (go_at_call 13; exact Calls.quiet_of (HSM.out _)))
      go_wp2_with fail
      go_roundg (gk - 1)
      case measure => omega
      case rel =>
        refine ⟨i + 1, by omega, by first | rfl | (rw [wrap64_in _ ⟨by omega, by omega⟩]; rfl) | simp, hide ?_⟩
        obtain ⟨k, hk⟩ := HK.out
        rw [hk]
        exact ⟨_, World.drewN_drewN ..⟩
    · go_wp2_with fail
      go_ret
      exact ⟨rfl, HK.out⟩
end Go.Proofs.Ytkdppcpkigpmdaa
