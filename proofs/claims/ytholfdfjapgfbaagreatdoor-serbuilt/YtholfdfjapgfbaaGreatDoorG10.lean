/-
  The tree's builder: closeFrom.
-/
import Derived.Test.YtholfdfjapgfbaaGreatDoorG9
namespace Utf1
mutual
/-- How many nodes. -/
def cntN : Nd → Nat
  | .mk _ _ _ k => 1 + cntL k
def cntL : List Nd → Nat
  | [] => 0
  | n :: r => cntN n + cntL r
end
theorem cntL_app : ∀ a b : List Nd, cntL (a ++ b) = cntL a + cntL b
  | [], b => by simp [cntL]
  | n :: a, b => by
    rw [List.cons_append, cntL, cntL, cntL_app a b]
    omega
theorem cntN_kids (n : Nd) : cntN n = 1 + cntL n.kids := by
  cases n
  rw [cntN]
  rfl
theorem len_cnt : ∀ l : List Nd, l.length ≤ cntL l
  | [] => Nat.le_refl _
  | n :: r => by
    have := len_cnt r
    have h1 := cntN_kids n
    rw [cntL, List.length_cons]
    omega
end Utf1
namespace Go.Proofs.YtholfdfjapgfbaaGreatDoor.Dm
open Go.RowKit
open Utf1

/-- One for a text that waits. -/
def tx (t : List UInt8) : Nat := if t = [] then 0 else 1
theorem cnt_add (nd x : Nd) : cntN (addKid nd x) = cntN nd + cntN x := by
  rw [cntN_kids, cntN_kids nd]
  show 1 + cntL (nd.kids ++ [x]) = _
  rw [cntL_app]
  simp only [cntL]
  omega
theorem cnt_text (nd : Nd) (t : List UInt8) : cntN (textIn nd t) = cntN nd + tx t := by
  unfold textIn tx
  split
  · rfl
  · rw [cnt_add, cntN]
    rfl

/-- So many closed, the innermost first. -/
def closeR : Nat → List Nd → List UInt8 → List Nd × List UInt8
  | n + 1, nd :: p :: r, t => closeR n (addKid p (textIn nd t) :: r) []
  | _, r, t => (r, t)

theorem own_pop {w : World} {base : Nat} {e : TypeId} {size g n cap : Nat} {xs ys : List Value} (h : w.ownsRow base e size (.slice (some ⟨g, 0, none⟩) (n + 1) cap) (n + 1) (xs ++ ys)) (hy : ys.length = size) : w.ownsRow base e size (.slice (some ⟨g, 0, none⟩) n cap) n xs := by
  obtain ⟨h1, ⟨e1, _⟩ | ⟨g', cap', cur, e1, h2, h3, h4, h5, h6, h7⟩⟩ := h
  · cases e1
  · cases e1
    have hx : xs.length = n * size := by
      rw [List.length_append, hy, Nat.add_mul, Nat.one_mul] at h1
      omega
    refine ⟨hx, .inr ⟨g, cap, cur, rfl, h2, h3, by omega, h5, h6, ?_⟩⟩
    have := congrArg (List.take (n * size)) h7
    rw [List.take_take, Nat.min_eq_left (Nat.mul_le_mul_right _ (Nat.le_succ n)), ← hx, List.take_left] at this
    rw [← hx]
    exact this

/-- What is read of the last open node, and the builder once it is taken off. -/
theorem pop_facts {w : World} {base B : Nat} {i : List Nd} {nd : Nd} {pa bv : Value} {o n : Nat} (h : St0 w base B (i ++ [nd]) pa bv o n) : ∃ (go oc : Nat) (ap : Option Addr) (am ac : Nat) (cp : Option Addr) (cm cc : Nat),
    BB w B (.slice (some ⟨go, 0, none⟩) (i.length + 1) oc) pa bv (.int .i64 (o : Int)) (.int .i64 (n : Int)) ∧
    w.cell? ⟨go, i.length * 4, none⟩ = some (.string ⟨nd.name.toArray⟩) ∧ w.cell? ⟨go, i.length * 4 + 1, none⟩ = some (.slice ap am ac) ∧ w.cell? ⟨go, i.length * 4 + 2, none⟩ = some (.string ⟨nd.text.toArray⟩) ∧ w.cell? ⟨go, i.length * 4 + 3, none⟩ = some (.slice cp cm cc) ∧ i.length + 1 ≤ oc ∧
    ∀ w', Below w.heap.size w w' → StX (w'.setCell ⟨B, 0, none⟩ (.slice (some ⟨go, 0, none⟩) i.length oc)) base B i pa bv o n nd (.slice ap am ac) (.slice cp cm cc) := by
  obtain ⟨hbB, hbw, ov, l, fp, hl, hB, hro, hall, hnd⟩ := h
  obtain ⟨li, av, kv, rfl, hli⟩ := map_snoc hl
  obtain ⟨fi, fb, rfl, hki, hk1⟩ := kall_split hall
  obtain ⟨hav, hkv⟩ := kall_one hk1
  have hll : li.length = i.length := by
    have := congrArg List.length hli
    rwa [List.length_map] at this
  have hlen : (li ++ [(nd, av, kv)]).length = i.length + 1 := by simp [hll]
  rw [hlen] at hro
  obtain ⟨go, oc, rfl, hcell⟩ := own_at hro (by omega)
  obtain ⟨ap, am, ac, rfl⟩ := own_slice hav
  obtain ⟨k, fk, hkk, rfl, hrk, hkall⟩ := kat_inv hkv
  obtain ⟨cp, cm, cc, rfl⟩ := own_slice hrk
  have hat : ∀ j, j < 4 → w.cell? ⟨go, i.length * 4 + j, none⟩ = (ndCells1 nd (.slice ap am ac) (.slice cp cm cc))[j]? := by
    intro j hj
    rw [hcell _ (by omega), ndCells_at _ i.length _ (by rw [← hll, List.getElem?_append_right (Nat.le_refl _), Nat.sub_self]; rfl) j hj]
  have hoc : i.length + 1 ≤ oc := by
    obtain ⟨_, ⟨e1, _⟩ | ⟨g', cap', cur, e1, _, _, h4, _⟩⟩ := hro
    · cases e1
    · cases e1
      exact h4
  refine ⟨go, oc, ap, am, ac, cp, cm, cc, hB, hat 0 (by decide), hat 1 (by decide), hat 2 (by decide), hat 3 (by decide), hoc, ?_⟩
  intro w' hb
  have hB' : BB w' B (.slice (some ⟨go, 0, none⟩) (i.length + 1) oc) pa bv (.int .i64 (o : Int)) (.int .i64 (n : Int)) := (hb.block _ (lt_of_block hB)).trans hB
  have hs := stays_set hB' 0 (.slice (some ⟨go, 0, none⟩) i.length oc)
  have hnB : ∀ j ∈ blk (.slice (some ⟨go, 0, none⟩) (i.length + 1) oc) ++ (fi ++ (blk (.slice cp cm cc) ++ fk)), j ∉ [B] := by
    intro j hj hm
    obtain ⟨cs, fz, e⟩ := node_typed ((KAt.mk _ _ _ (by rw [hlen]; exact hro) hall).under hb) j hj
    exact bb_no_node hB' j hm cs fz e
  have hsz : (w'.setCell ⟨B, 0, none⟩ (.slice (some ⟨go, 0, none⟩) i.length oc)).heap.size = w'.heap.size := by simp
  have hnd' := List.nodup_append.1 hnd
  have hnd2 := List.nodup_append.1 hnd'.2.1
  have hro2 : w'.ownsRow base 42 4 (.slice (some ⟨go, 0, none⟩) i.length oc) i.length (ndCells li) := own_pop (by have := own_below hro hb; rw [nd_one] at this; exact this) rfl
  refine ⟨hbB, by rw [hsz]; exact Nat.le_trans hbw hb.size, .slice (some ⟨go, 0, none⟩) i.length oc, li, fi, blk (.slice cp cm cc) ++ fk, hli, tok_set hB' 0 _, ?_, ?_, ?_, ?_, ?_, ?_, ?_⟩
  · rw [hll]
    exact own_stays hro2 hs.block (fun j hj => hnB j (List.mem_append_left _ (by have : (Value.slice (some ⟨go, 0, none⟩) (i.length + 1) oc).ownBlock = some j := hj; unfold blk; rw [this]; simp)))
  · exact (hki.under hb).stays hs (fun j hj => hnB j (List.mem_append_right _ (List.mem_append_left _ hj)))
  · exact List.nodup_append.2 ⟨hnd'.1, hnd2.1, fun a ha c hc => hnd'.2.2 a ha c (List.mem_append_left _ hc)⟩
  · exact attr_stays (own_below hav hb) hs
  · rw [hkk]
    exact KAt.stays ((KAt.mk _ k fk hrk hkall).under hb) hs (fun j hj => hnB j (List.mem_append_right _ (List.mem_append_right _ hj)))
  · exact hnd2.2.1
  · intro j hj hm
    rcases List.mem_append.1 hm with hm | hm
    · exact hnd'.2.2 j hm j (List.mem_append_right _ hj) rfl
    · exact hnd2.2.2 j hm j hj rfl
end Go.Proofs.YtholfdfjapgfbaaGreatDoor.Dm
