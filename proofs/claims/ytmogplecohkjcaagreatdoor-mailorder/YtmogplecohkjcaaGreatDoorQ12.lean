/-
  Light: which policies are gone through in the laws.
-/
import Derived.Test.YtmogplecohkjcaaGreatDoorPW
namespace Pol8
def Pol.lists (p : Pol) : List (List L) := [p.el, p.at_, p.sc, p.cl, p.pr]
/-- The size of a list's texts. -/
def sizeL (l : List L) : Nat := (l.map fun x => x.length).sum
def sizeM (l : List L) : Nat := (l.map fun x => min x.length 10000).sum
/-- Lists of at most 100 texts, of less than 6000 bytes in all. -/
def light (p : Pol) : Prop := (∀ l ∈ p.lists, l.length ≤ 100) ∧ (p.lists.map sizeL).sum < 6000
theorem mem_sum : ∀ (l : List Nat) (x : Nat), x ∈ l → x ≤ l.sum
  | y :: l, x, h => by
    rw [List.sum_cons]
    rcases List.mem_cons.1 h with rfl | h
    · omega
    · have := mem_sum l x h
      omega
theorem sizeM_eq : ∀ (l : List L), sizeM l < 6000 → sizeM l = sizeL l
  | [], _ => rfl
  | x :: l, h => by
    have e : sizeM (x :: l) = min x.length 10000 + sizeM l := by simp [sizeM]
    have e2 : sizeL (x :: l) = x.length + sizeL l := by simp [sizeL]
    rw [e] at h
    have := sizeM_eq l (by omega)
    rw [e, e2, this]
    omega
theorem sizeMs_eq : ∀ (ls : List (List L)), (ls.map sizeM).sum < 6000 → (ls.map sizeM).sum = (ls.map sizeL).sum
  | [], _ => rfl
  | l :: ls, h => by
    rw [List.map_cons, List.sum_cons] at h
    rw [List.map_cons, List.sum_cons, List.map_cons, List.sum_cons, sizeM_eq l (by omega), sizeMs_eq ls (by omega)]
theorem sizeM_step (l : List L) (k : Nat) (x : L) (h : l[k]? = some x) : sizeM (l.take (k + 1)) = sizeM (l.take k) + min x.length 10000 := by
  rw [List.take_add_one, h]
  simp [sizeM]
theorem sizeMs_step (ls : List (List L)) (k : Nat) (l : List L) (h : ls[k]? = some l) : ((ls.take (k + 1)).map sizeM).sum = ((ls.take k).map sizeM).sum + sizeM l := by
  rw [List.take_add_one, h]
  simp
end Pol8
namespace Go.Proofs.YtmogplecohkjcaaGreatDoor
open Go.RowKit
open Utf1 Pol8

theorem light_fits {p : Pol} (h : light p) : fits p := by
  intro l hl
  have h1 := h.1 l hl
  refine ⟨by omega, fun x hx => ?_⟩
  have h2 := mem_sum _ _ (List.mem_map_of_mem (f := sizeL) (l := p.lists) hl)
  have h3 := mem_sum _ _ (List.mem_map_of_mem (f := fun x : L => x.length) hx)
  have h4 := h.2
  have e : sizeL l = (l.map fun x => x.length).sum := rfl
  omega
theorem five {α : Type} {P : Nat → α → Prop} {a b c d e : α} (h0 : P 0 a) (h1 : P 1 b) (h2 : P 2 c) (h3 : P 3 d) (h4 : P 4 e) : ∀ i x, [a, b, c, d, e][i]? = some x → P i x := by
  intro i x h
  match i, h with
  | 0, h => simp at h; subst h; exact h0
  | 1, h => simp at h; subst h; exact h1
  | 2, h => simp at h; subst h; exact h2
  | 3, h => simp at h; subst h; exact h3
  | 4, h => simp at h; subst h; exact h4
  | i + 5, h => simp at h

set_option maxRecDepth 100000 in
set_option maxHeartbeats 16000000 in
theorem rlight_any (v1 v2 v3 v4 v5 : Value) (p : Pol) (l1 l2 l3 l4 l5 : List ByteArray) (w : World) (hv : PolV w v1 v2 v3 v4 v5 p l1 l2 l3 l4 l5) :
    Calls Tryz.prog 24 #[.agg #[.int .i64 p.ep, v1, v2, v3, v4, v5, .int .i64 p.dp, .int .i64 p.nd, .int .i64 p.bt]] w fun e w' => (∃ b : Bool, e = .returned (.bool b) ∧ (b = true → light p)) ∧ Below w.heap.size w w' := by
  obtain ⟨A, hA⟩ : ∃ A : Array Value, A = #[.int .i64 p.ep, v1, v2, v3, v4, v5, .int .i64 p.dp, .int .i64 p.nd, .int .i64 p.bt] := ⟨_, rfl⟩
  obtain ⟨w1, hw1⟩ : ∃ w1, w1 = w.alloc (.cells A 33) := ⟨_, rfl⟩
  have HN : Hid (BoxP w A w1) := hide (by rw [hw1]; exact ⟨new_block _ _ _, bel_alloc (Below.refl _ _) _⟩)
  have hsz : w1.heap.size = w.heap.size + 1 := by rw [hw1]; simp
  have y1 := HN.out.cell 1 v1 (by rw [hA]; rfl)
  have y2 := HN.out.cell 2 v2 (by rw [hA]; rfl)
  have y3 := HN.out.cell 3 v3 (by rw [hA]; rfl)
  have y4 := HN.out.cell 4 v4 (by rw [hA]; rfl)
  have y5 := HN.out.cell 5 v5 (by rw [hA]; rfl)
  obtain ⟨W2, hW2⟩ : ∃ W2, W2 = w1.alloc (.cells #[v1, v2, v3, v4, v5] 30) := ⟨_, rfl⟩
  have hb2 : Below w.heap.size w W2 := by rw [hW2]; exact bel_alloc HN.out.2 _
  have hblk : W2.heap[w.heap.size + 1]? = some (.cells #[v1, v2, v3, v4, v5] 30 (0, 0)) := by
    rw [hW2, ← hsz]
    exact new_block _ _ _
  have HL : Hid (∀ i l, p.lists[i]? = some l → ∃ (ss : List ByteArray) (pv : Option Addr) (cv : Nat), W2.cell? ⟨w.heap.size + 1, i, none⟩ = some (.slice pv ss.length cv) ∧ StrArg W2 (.slice pv ss.length cv) ss ∧ ss.map bl = l) := hide (by
    have key : ∀ (i : Nat) (v : Value) (ss : List ByteArray) (l : List L), #[v1, v2, v3, v4, v5][i]? = some v → StrArg w v ss → ss.map bl = l → ∃ (ss : List ByteArray) (pv : Option Addr) (cv : Nat), W2.cell? ⟨w.heap.size + 1, i, none⟩ = some (.slice pv ss.length cv) ∧ StrArg W2 (.slice pv ss.length cv) ss ∧ ss.map bl = l := by
      intro i v ss l hi hs he
      have hs2 := hs.below hb2
      obtain ⟨pv, cv, rfl, -, -⟩ := hs
      exact ⟨ss, pv, cv, tag_cell hblk i _ hi, hs2, he⟩
    exact five (key 0 v1 l1 _ rfl hv.s1 hv.e1) (key 1 v2 l2 _ rfl hv.s2 hv.e2) (key 2 v3 l3 _ rfl hv.s3 hv.e3) (key 3 v4 l4 _ rfl hv.s4 hv.e4) (key 4 v5 l5 _ rfl hv.s5 hv.e5))
  have HB2 := hide hb2
  have HLEN : Hid (p.lists.length = 5) := hide rfl
  rw [hA] at hw1
  obtain ⟨p1, c1, rfl, -, -⟩ := hv.s1
  obtain ⟨p2, c2, rfl, -, -⟩ := hv.s2
  obtain ⟨p3, c3, rfl, -, -⟩ := hv.s3
  obtain ⟨p4, c4, rfl, -, -⟩ := hv.s4
  obtain ⟨p5, c5, rfl, -, -⟩ := hv.s5
  clear hv hA hb2 hblk
  go_enter Tryz.func24, Tryz.ntmps24
  go_upto_region 1 with fail
  rw [← hw1]
  clear hw1
  go_upto_block 0 with fail
  rw [← hW2]
  clear hW2 hsz y1 y2 y3 y4 y5 HN
  go_wp2_with fail
  go_loopg [3, 19] 5 (fun g v3 v19 wx => wx = W2 ∧ ∃ i n : Nat, i + g = 5 ∧ v19 = .int .i64 (i : Int) ∧ v3 = .int .i64 (n : Int) ∧ n ≤ i * 1000000 ∧ Hid ((∀ j l, j < i → p.lists[j]? = some l → l.length ≤ 100) ∧ n = ((p.lists.take i).map sizeM).sum))
  case atStart => exact ⟨rfl, 0, 0, by omega, rfl, rfl, by omega, hide ⟨fun j l hj => by omega, rfl⟩⟩
  case round =>
    obtain ⟨rfl, i, n, hi, rfl, rfl, hn, HU⟩ := hrel
    by_cases hlt : i < 5
    · obtain ⟨l, hl⟩ : ∃ l, p.lists[i]? = some l := ⟨_, List.getElem?_eq_getElem (by rw [HLEN.out]; exact hlt)⟩
      obtain ⟨ss, pv, cv, c0, hs, he⟩ := HL.out i l hl
      have HS := hide hs
      have HE := hide he
      have HLI := hide hl
      clear hs he hl
      by_cases h100 : 100 < ss.length
      · clear HS HE HLI HU
        go_wp2_with fail
        go_ret
        exact ⟨⟨false, rfl, fun h => by cases h⟩, HB2.out⟩
      · obtain ⟨N, hN⟩ : ∃ N, N = ss.length := ⟨_, rfl⟩
        rw [← hN] at c0 h100 HS
        have HNN := hide hN
        clear hN
        go_wp2_with fail
        have HLT5 := hide hlt
        clear hlt
        generalize decide ((i : Int) < 5) = bi
        generalize decide ((100 : Int) < (N : Int)) = bn
        go_loopg [3, 6] N (fun g2 v3 v6 wx => wx = wr ∧ ∃ k m : Nat, k + g2 = N ∧ v6 = .int .i64 (k : Int) ∧ v3 = .int .i64 (m : Int) ∧ n ≤ m ∧ m ≤ n + k * 10000 ∧ Hid (m = n + sizeM ((ss.map bl).take k)))
        case atStart => exact ⟨rfl, 0, n, by omega, rfl, rfl, by omega, by omega, hide rfl⟩
        case round =>
          obtain ⟨rfl, k, m, hk, rfl, rfl, hnm, hm, HK⟩ := hrel
          by_cases hkN : k < N
          · obtain ⟨y, hy⟩ : ∃ y, ss[k]? = some y := ⟨_, List.getElem?_eq_getElem (by rw [← HNN.out]; exact hkN)⟩
            obtain ⟨b, off, rfl, c1⟩ : ∃ b off, pv = some ⟨b, off, none⟩ ∧ wr.cell? ⟨b, off + k, none⟩ = some (.string y) := by
              obtain ⟨p', cap', e, -, hc⟩ := HS.out
              injection e with e1 e2 e3
              obtain ⟨b, off, e4, h⟩ := hc k y hy
              exact ⟨b, off, e1.trans e4, h⟩
            have HK2 : Hid (∀ mm, mm = min y.size 10000 → m + mm = n + sizeM ((ss.map bl).take (k + 1))) := hide (fun mm hmm => by
              rw [sizeM_step (ss.map bl) k (bl y) (by rw [List.getElem?_map, hy]; rfl), bl_len, hmm, HK.out]
              omega)
            clear hy HK
            by_cases hyz : y.size < 10000
            · have HK3 := hide (HK2.out y.size (by omega))
              clear HK2
              go_wp2_with fail
              go_roundg (N - k - 1)
              case measure => omega
              case rel => exact ⟨rfl, k + 1, m + y.size, by omega, by first | rfl | simp, by first | rfl | (simp; done) | (simp; omega), by omega, by omega, HK3⟩
            · by_cases hyw : 10000 < y.size
              · have HK3 := hide (HK2.out 10000 (by omega))
                clear HK2
                go_wp2_with fail
                go_roundg (N - k - 1)
                case measure => omega
                case rel => exact ⟨rfl, k + 1, m + 10000, by omega, by first | rfl | simp, by first | rfl | (simp; done) | (simp; omega), by omega, by omega, HK3⟩
              · have HK3 := hide (HK2.out y.size (by omega))
                clear HK2
                go_wp2_with fail
                go_roundg (N - k - 1)
                case measure => omega
                case rel => exact ⟨rfl, k + 1, m + y.size, by omega, by first | rfl | simp, by first | rfl | (simp; done) | (simp; omega), by omega, by omega, HK3⟩
          · have HU2 : Hid ((∀ j l, j < i + 1 → p.lists[j]? = some l → l.length ≤ 100) ∧ m = ((p.lists.take (i + 1)).map sizeM).sum) := hide (by
              have hkk : (ss.map bl).take k = l := by rw [← HE.out]; exact List.take_of_length_le (by rw [List.length_map, ← HNN.out]; omega)
              refine ⟨fun j l' hj hl' => ?_, ?_⟩
              · by_cases e : j = i
                · subst e
                  rw [HLI.out] at hl'
                  cases hl'
                  rw [← HE.out, List.length_map, ← HNN.out]
                  omega
                · exact HU.out.1 j l' (by omega) hl'
              · rw [sizeMs_step p.lists i l HLI.out, ← HU.out.2, HK.out, hkk])
            clear HK HU
            go_wp2_with fail
            go_roundg (5 - i - 1)
            case measure => have := HLT5.out; omega
            case rel => exact ⟨rfl, i + 1, m, by have := HLT5.out; omega, by first | rfl | simp, rfl, by omega, HU2⟩
    · have HLT : Hid (n < 6000 → light p) := hide (fun h => by
        have ht : p.lists.take i = p.lists := List.take_of_length_le (by rw [HLEN.out]; omega)
        have h2 := HU.out.2
        rw [ht] at h2
        refine ⟨fun l hl => ?_, ?_⟩
        · obtain ⟨j, hj⟩ := List.mem_iff_getElem?.1 hl
          have hjl := (List.getElem?_eq_some_iff.1 hj).1
          rw [HLEN.out] at hjl
          exact HU.out.1 j l (by omega) hj
        · rw [← sizeMs_eq p.lists (by omega)]
          omega)
      clear HU
      go_wp2_with fail
      go_ret
      exact ⟨⟨_, rfl, fun h => HLT.out (by have := of_decide_eq_true h; omega)⟩, HB2.out⟩
end Go.Proofs.YtmogplecohkjcaaGreatDoor
