/-
  What utf.Fix answers at whatever bytes: the text that the plain mathematics makes of them.
-/
import Derived.Test.YtnjdmkkifdiedaaW3
namespace Go.Proofs.Ytnjdmkkifdiedaa
open Go.RowKit
open Utf1

/-- A slice of bytes reads as l. -/
def IsBytes (w : World) (v : Value) (l : List UInt8) : Prop :=
  (v = .slice none 0 0 ∧ l = []) ∨ ∃ x cap, v = .slice (some x) l.length cap ∧ ∀ j (hj : j < l.length), w.cell? (x.add j) = some (.int .u8 (l[j].toNat : Int))

theorem add_block (x : Addr) (j : Nat) : (x.add j).block = x.block := by
  unfold Addr.add
  split <;> rfl

theorem cell_lt {w : World} {x : Addr} {v : Value} (h : w.cell? x = some v) : x.block < w.heap.size := by
  unfold World.cell? at h
  cases hb : w.heap[x.block]? with
  | none => rw [hb] at h; simp at h
  | some o => exact (Array.getElem?_eq_some_iff.1 hb).1

theorem IsBytes.below {w w' : World} {v : Value} {l : List UInt8} (h : IsBytes w v l) (hb : Below w.heap.size w w') : IsBytes w' v l := by
  rcases h with h | ⟨x, cap, hv, hc⟩
  · exact .inl h
  · refine .inr ⟨x, cap, hv, fun j hj => ?_⟩
    rw [← hc j hj]
    exact hb.cell (p := x.add j) (cell_lt (hc j hj))

theorem IsBytes.conv {w : World} {v : Value} {l : List UInt8} (h : IsBytes w v l) : (convert 22 9 v).run Try.prog w = .ok (.string ⟨l.toArray⟩) w := by
  rcases h with ⟨rfl, rfl⟩ | ⟨x, cap, rfl, hc⟩
  · rw [run_convert_bytes_string w 22 9 5 none 0 0 Try.underlying22 Try.underlying5 Try.underlying9]
    rfl
  · exact run_convert_bytes_back w 22 9 5 x cap l Try.underlying22 Try.underlying5 Try.underlying9 hc

theorem add_zero_at (B j : Nat) : (⟨B, 0, none⟩ : Addr).add j = ⟨B, j, none⟩ := by cases j <;> simp [Addr.add]
theorem add_at (B off j : Nat) : (⟨B, off, none⟩ : Addr).add j = ⟨B, off + j, none⟩ := by cases j <;> simp [Addr.add]

theorem IsBytes.ofRow {w : World} {B : Nat} {l : List UInt8} (h : RowIs w B l) (cap : Nat) : IsBytes w (.slice (some ⟨B, 0, none⟩) l.length cap) l :=
  .inr ⟨⟨B, 0, none⟩, cap, rfl, fun j hj => by rw [add_zero_at]; exact h.cell j hj⟩

theorem IsBytes.len {w : World} {a : Option Addr} {n cap : Nat} {l : List UInt8} (h : IsBytes w (.slice a n cap) l) : n = l.length := by
  rcases h with ⟨h, rfl⟩ | ⟨x, c, h, _⟩
  · simp at h; exact h.2.1
  · simp at h; exact h.2.1
theorem IsBytes.at {w : World} {a : Option Addr} {n cap : Nat} {l : List UInt8} (h : IsBytes w (.slice a n cap) l) (k : Nat) (hk : k < l.length) : ∃ b off, a = some ⟨b, off, none⟩ ∧ w.cell? ⟨b, off + k, none⟩ = some (.int .u8 (l[k].toNat : Int)) := by
  rcases h with ⟨_, rfl⟩ | ⟨⟨b, off, spot⟩, c, h, hc⟩
  · simp at hk
  · simp at h
    have h1 := hc k hk
    have hs : spot = none := by
      have h0 := hc 0 (by omega)
      have := World.cell?_spot h0
      simpa [Addr.add] using this
    subst hs
    refine ⟨b, off, h.1, ?_⟩
    rw [← add_at]
    exact h1

/-- What an argument reads as. -/
theorem isBytes_arg (w : World) (x : Addr) (n cap : Nat) (zs : List Int) (hl : n ≤ cap) (hz : zs.length = cap)
    (hc : ∀ i, i < zs.length → w.cell? (x.add i) = some (.int .u8 (zs.getD i 0))) (hw : ∀ z ∈ zs, 0 ≤ z ∧ z ≤ 255) : ∃ l, IsBytes w (.slice (some x) n cap) l := by
  refine ⟨(zs.take n).map fun z => UInt8.ofNat z.toNat, .inr ⟨x, cap, ?_, fun j hj => ?_⟩⟩
  · rw [List.length_map, List.length_take, Nat.min_eq_left (by omega)]
  · have hj2 : j < zs.length := by rw [List.length_map, List.length_take] at hj; omega
    rw [hc j hj2]
    have hb := hw _ (List.getElem_mem hj2)
    rw [List.getElem_map, List.getElem_take, toNat_ofNat (by omega), List.getD_eq_getElem?_getD, List.getElem?_eq_getElem hj2]
    simp
    omega

/-- What is still to be written, from a place on. -/
def rest (s : ByteArray) (last pos : Nat) : List UInt8 := enc (fixR last (runes ((bl s).drop pos)))
theorem rest_step (s : ByteArray) (last pos r wd : Nat) (h : pos < s.size) (hd : dl ((bl s).drop pos) = (r, wd)) : rest s last pos = enc (one last r) ++ rest s r (pos + wd) := by
  unfold rest
  rw [runes_drop s pos r wd h hd, fixR, enc_append]
theorem rest_end (s : ByteArray) (last pos : Nat) (h : ¬ pos < s.size) : rest s last pos = [] := by
  unfold rest
  rw [drop_all s pos h, runes_nil]
  rfl

theorem er_cells (r : Nat) : Lib.byteCells (er r) = Lib.runeCells (r : Int) := Lib.byteCells_encodeRune _
theorem enc_one (r : Nat) : enc [r] = er r := by rw [enc_cons, enc_nil, List.append_nil]

set_option maxHeartbeats 4000000 in
set_option maxRecDepth 100000 in
theorem fix_str (v : Value) (s : ByteArray) (w : World) (hv : ∀ o, (convert 22 9 v).run Try.prog (w.alloc o) = .ok (.string s) (w.alloc o)) (hs : s.size ≤ 1099511627776) :
    Calls Try.prog 10 #[v] w fun e w' => e = .returned (.string ⟨(fix (bl s)).toArray⟩) ∧ Below w.heap.size w w' := by
  go_enter Try.func10, Try.ntmps10
  go_wp2
  clear hv
  go_loopw [4] (fun la wr => ∃ (pos last : Nat) (acc : List UInt8), la = .int .i32 last ∧ Lib.IsBuilderF 35 5 w.heap.size w.heap.size (Lib.byteCells acc) wr ∧ wr.heap[w.heap.size + 1]? = some (.stringIter s pos) ∧ Below w.heap.size w wr ∧ Hid (acc ++ rest s last pos = fix (bl s)) ∧ acc.length ≤ 4 * pos ∧ pos ≤ s.size ∧ last ≤ 1114111) (fun _ wr => s.size - wr.iterPos (w.heap.size + 1))
  case atStart =>
    refine ⟨0, 0, [], rfl, (Lib.IsBuilderF.of (Lib.fresh_isBuilder 35 5 w)).alloc _, ?_, ((Below.refl _ w).alloc (Nat.le_refl _) _).alloc (by simp) _, hide rfl, by simp, Nat.zero_le _, by omega⟩
    have := World.iter_heap (w.alloc (.cells #[.pointer none, .slice none 0 0] 35)) s 0
    simpa using this
  case round =>
    obtain ⟨pos, last, acc, rfl, hI, hit, hbw, HA, hal, hp, hla⟩ := hrel
    have hsz : w.heap.size + 1 < wr.heap.size := (Array.getElem?_eq_some_iff.1 hit).1
    by_cases hlt : pos < s.size
    · obtain ⟨r, wd, hw1, hw4, hwl, hr, hdl, hnx⟩ := next_some Try.prog wr (w.heap.size + 1) s pos hit hlt
      have hstep := rest_step s last pos r wd hlt hdl
      have hI2 := hI.iterAt hit (pos + wd)
      have hit2 := Lib.iterAt_heap wr (w.heap.size + 1) s pos (pos + wd) hit
      have hbw2 := Lib.below_iterAt hbw (k := w.heap.size + 1) (by omega) s (pos + wd)
      have hsz2 : w.heap.size ≤ (wr.iterAt (w.heap.size + 1) s (pos + wd)).heap.size := by rw [Lib.iterAt_size]; omega
      have HS := hide hstep
      clear hstep hdl
      by_cases h0 : r = 0
      · subst h0
        have HO : Hid (one last 0 = [65533]) := hide rfl
        go_wp2_with (go_at_call 20; refine (Try.Builder_WriteRune_k w.heap.size w.heap.size _ _ (by omega) (by omega) _ hI2 (by rw [Lib.byteCells_length]; omega) hsz2).mono ?_)
        rintro e W1 ⟨rfl, h1, b1, k1⟩
        go_wp2
        go_roundw
        case rel =>
          have hl4 := er_len 65533
          refine ⟨pos + wd, 0, acc ++ er 65533, rfl, ?_, k1.iter hit2 (by omega), hbw2.trans b1, hide ?_, by simp; omega, hwl, by omega⟩
          · rw [Lib.byteCells_append, er_cells]; exact Or.inr h1
          · rw [← HA.out, HS.out, HO.out, enc_one, List.append_assoc]
        case measure =>
          simp only [World.iterPos, k1.iter hit2 (by omega), hit]
          omega
      · by_cases h13 : r = 13
        · subst h13
          have HO : Hid (one last 13 = [10]) := hide rfl
          go_wp2_with (go_at_call 21; refine (Try.Builder_WriteByte_k w.heap.size w.heap.size _ 10 _ hI2 (by rw [Lib.byteCells_length]; omega) hsz2).mono ?_)
          rintro e W1 ⟨rfl, h1, b1, k1⟩
          go_wp2
          go_roundw
          case rel =>
            refine ⟨pos + wd, 13, acc ++ [10], rfl, ?_, k1.iter hit2 (by omega), hbw2.trans b1, hide ?_, by simp; omega, hwl, by omega⟩
            · rw [Lib.byteCells_append]; exact Or.inr h1
            · rw [← HA.out, HS.out, HO.out, enc_one, List.append_assoc]
              rfl
          case measure =>
            simp only [World.iterPos, k1.iter hit2 (by omega), hit]
            omega
        · by_cases h10 : r = 10
          · by_cases hl13 : last = 13
            · subst h10
              subst hl13
              have HO : Hid (one 13 10 = []) := hide rfl
              go_wp2
              go_roundw
              case rel =>
                refine ⟨pos + wd, 10, acc, rfl, hI2, hit2, hbw2, hide ?_, by omega, hwl, by omega⟩
                rw [← HA.out, HS.out, HO.out, enc_nil, List.nil_append]
              case measure =>
                simp only [World.iterPos, hit2, hit]
                omega
            · subst h10
              have hB : ((last : Int) == 13) = false := beq_eq_false_iff_ne.2 (by omega)
              have HO : Hid (one last 10 = [10]) := hide (by unfold one; rw [if_neg h0, if_neg h13, if_neg (fun e => hl13 e.2)])
              go_wp2_with (go_at_call 20; refine (Try.Builder_WriteRune_k w.heap.size w.heap.size _ _ (by omega) (by omega) _ hI2 (by rw [Lib.byteCells_length]; omega) hsz2).mono ?_)
              rintro e W1 ⟨rfl, h1, b1, k1⟩
              go_wp2
              go_roundw
              case rel =>
                have hl4 := er_len 10
                refine ⟨pos + wd, 10, acc ++ er 10, rfl, ?_, k1.iter hit2 (by omega), hbw2.trans b1, hide ?_, by simp; omega, hwl, by omega⟩
                · rw [Lib.byteCells_append, er_cells]; exact Or.inr h1
                · rw [← HA.out, HS.out, HO.out, enc_one, List.append_assoc]
              case measure =>
                simp only [World.iterPos, k1.iter hit2 (by omega), hit]
                omega
          · have hA0 : ((r : Int) == 0) = false := beq_eq_false_iff_ne.2 (by omega)
            have hA1 : ((r : Int) == 13) = false := beq_eq_false_iff_ne.2 (by omega)
            have hA2 : ((r : Int) == 10) = false := beq_eq_false_iff_ne.2 (by omega)
            have HO : Hid (one last r = [r]) := hide (by unfold one; rw [if_neg h0, if_neg h13, if_neg (fun e => h10 e.1)])
            go_wp2_with (go_at_call 20; refine (Try.Builder_WriteRune_k w.heap.size w.heap.size _ _ (by omega) (by omega) _ hI2 (by rw [Lib.byteCells_length]; omega) hsz2).mono ?_)
            rintro e W1 ⟨rfl, h1, b1, k1⟩
            go_wp2
            go_roundw
            case rel =>
              have hl4 := er_len r
              refine ⟨pos + wd, r, acc ++ er r, rfl, ?_, k1.iter hit2 (by omega), hbw2.trans b1, hide ?_, by simp; omega, hwl, hr⟩
              · rw [Lib.byteCells_append, er_cells]; exact Or.inr h1
              · rw [← HA.out, HS.out, HO.out, enc_one, List.append_assoc]
            case measure =>
              simp only [World.iterPos, k1.iter hit2 (by omega), hit]
              omega
    · -- the text is through
      have hnx : ∀ ty, (Instr.next (.pointer (some ⟨w.heap.size + 1, 0, none⟩)) true ty).run Try.prog wr = _ := fun ty => Lib.run_next_end_at wr (w.heap.size + 1) s pos ty hit hlt
      go_wp2_with (go_at_call 22; refine (Try.Builder_String_any_k w.heap.size w.heap.size acc _ hI (by omega)).mono ?_)
      rintro e W1 ⟨rfl, _, b1, _⟩
      go_wp2
      go_ret
      have hacc := HA.out
      rw [rest_end s last pos hlt, List.append_nil] at hacc
      rw [hacc]
      exact ⟨rfl, hbw.trans b1⟩

theorem fix_any (v : Value) (l : List UInt8) (w : World) (h : IsBytes w v l) (hl : l.length ≤ 1099511627776) :
    Calls Try.prog 10 #[v] w fun e w' => e = .returned (.string ⟨(fix l).toArray⟩) ∧ Below w.heap.size w w' :=
  fix_str v ⟨l.toArray⟩ w (fun o => (h.below ((Below.refl _ w).alloc (Nat.le_refl _) o)).conv) hl
end Go.Proofs.Ytnjdmkkifdiedaa
