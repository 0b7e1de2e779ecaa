/-
  Light messages' texts are short.
-/
import Derived.Test.YtmogplecohkjcaaGreatDoorME6
import Derived.Test.YtmogplecohkjcaaGreatDoorMD6
namespace Msg15
open Go
open Pol8 hiding text right Right
theorem flds_sum : ∀ l : List L, (∀ t ∈ l, t.length ≤ 999999) → (flds l).length ≤ (l.map (·.length)).sum + l.length * 12
  | [], _ => by simp [flds]
  | s :: l, h => by
    have h1 := flds_sum l (fun t ht => h t (List.mem_cons_of_mem _ ht))
    have h2 := h s (List.mem_cons_self ..)
    have h3 := dec_len s.length 6 (by omega)
    have h4 : (fld s).length ≤ s.length + 12 := by
      unfold fld
      simp
      omega
    show (fld s ++ flds l).length ≤ (s.length + (l.map (·.length)).sum) + (l.length + 1) * 12
    rw [List.length_append]
    omega
theorem sum_le {B : Nat} : ∀ l : List L, (∀ t ∈ l, t.length ≤ B) → (l.map (·.length)).sum ≤ l.length * B
  | [], _ => by simp
  | s :: l, h => by
    have h1 := sum_le l (fun t ht => h t (List.mem_cons_of_mem _ ht))
    have h2 := h s (List.mem_cons_self ..)
    show s.length + (l.map (·.length)).sum ≤ (l.length + 1) * B
    rw [Nat.add_mul, Nat.one_mul]
    omega
theorem two_sum : ∀ l : List (L × L), ((two l).map (·.length)).sum = ((l.map (·.1)).map (·.length)).sum + ((l.map (·.2)).map (·.length)).sum
  | [] => rfl
  | p :: l => by
    have := two_sum l
    show p.1.length + (p.2.length + ((two l).map (·.length)).sum) = (p.1.length + ((l.map (·.1)).map (·.length)).sum) + (p.2.length + ((l.map (·.2)).map (·.length)).sum)
    omega
end Msg15
namespace Go.Proofs.YtmogplecohkjcaaGreatDoor
open Go.RowKit
open Utf1
open Pol8 hiding text right Right
open Msg15

theorem mSum_eq : ∀ l : List L, (∀ t ∈ l, t.length ≤ 2000) → mSum l = (l.map (·.length)).sum
  | [], _ => rfl
  | s :: l, h => by
    have h1 := mSum_eq l (fun t ht => h t (List.mem_cons_of_mem _ ht))
    have h2 := h s (List.mem_cons_self ..)
    show min s.length 100000 + mSum l = s.length + (l.map (·.length)).sum
    omega
/-- A light message's text is short. -/
theorem light_short {m : Ms} (h : MRight m) (hs : mSum (m.posts.map (·.2)) < 20000) : (textM m).length ≤ 60000 := by
  have h0 := flds_sum (listM m) (list_small h)
  have hc := body_count h
  have d : ∀ n : Nat, n ≤ 1000000 → (dec n).length ≤ 7 := fun n hn => dec_len n 6 (by omega)
  have k1 := h.kind
  have k2 := h.fr
  have k3 := h.to
  have k4 := h.ep
  have d1 := d m.kind.toNat (by omega)
  have d2 := d m.fr.toNat (by omega)
  have d3 := d m.to.toNat (by omega)
  have d4 := d m.ep.toNat (by omega)
  have hb : ((body m).map (·.length)).sum ≤ 41000 := by
    have r1 := riseI_len h.rids
    have r2 := riseI_len h.rposts
    rcases kinds h with hk | hk | hk | hk
    · have e : body m = dec m.ids.length :: m.ids := by unfold body; rw [if_pos hk]
      rw [e]
      have h1 := d m.ids.length (by omega)
      have h2 := sum_le m.ids r1.2
      show (dec m.ids.length).length + (m.ids.map (·.length)).sum ≤ _
      omega
    · have e : body m = dec m.posts.length :: two m.posts := by unfold body; rw [if_neg (by omega), if_pos hk]
      rw [e]
      have r3 := r2.1
      rw [List.length_map] at r3
      have h1 := d m.posts.length (by omega)
      have h2 := sum_le (m.posts.map (·.1)) r2.2
      rw [List.length_map] at h2
      have h3 := mSum_eq (m.posts.map (·.2)) (fun t ht => by
        obtain ⟨q, hq, rfl⟩ := List.mem_map.1 ht
        exact h.raws q hq)
      show (dec m.posts.length).length + ((two m.posts).map (·.length)).sum ≤ _
      rw [two_sum]
      omega
    · have e : body m = [Pol8.text m.pol] := by unfold body; rw [if_neg (by omega), if_neg (by omega), if_pos hk]
      rw [e]
      have h1 := pol_len ((Pol8.right_iff _).1 (h.rpol hk))
      show (Pol8.text m.pol).length + 0 ≤ _
      omega
    · have e : body m = [] := by unfold body; rw [if_neg (by omega), if_neg (by omega), if_neg (by omega)]
      rw [e]
      exact Nat.zero_le _
  show (flds (listM m)).length ≤ _
  have e1 : ((listM m).map (·.length)).sum = (dec m.kind.toNat).length + ((dec m.fr.toNat).length + ((dec m.to.toNat).length + ((dec m.ep.toNat).length + ((body m).map (·.length)).sum))) := rfl
  have e2 : (listM m).length = (body m).length + 1 + 1 + 1 + 1 := rfl
  rw [e1, e2] at h0
  omega
end Go.Proofs.YtmogplecohkjcaaGreatDoor
