/-
  The document's own Has, word, rises, words.
-/
import Derived.Test.YtebcpmgooodmpabGreatDoorPW
import Derived.Test.YtebcpmgooodmpabGreatDoorMZ
import Derived.BigQuiet
import Derived.Test.YtebcpmgooodmpabGreatDoorPG
import Derived.Deep.RegionHeld3
namespace Go.Proofs.YtebcpmgooodmpabGreatDoor
open Go.RowKit
open Utf1 Pol8

end Go.Proofs.YtebcpmgooodmpabGreatDoor

namespace Go.Proofs.YtebcpmgooodmpabGreatDoor
open Go.RowKit
open Utf1 Pol8

end Go.Proofs.YtebcpmgooodmpabGreatDoor

namespace Go.Proofs.YtebcpmgooodmpabGreatDoor
open Go.RowKit
open Utf1 Pol8

def rawB : List ByteArray := [⟨#[115, 99, 114, 105, 112, 116]⟩, ⟨#[115, 116, 121, 108, 101]⟩, ⟨#[120, 109, 112]⟩, ⟨#[105, 102, 114, 97, 109, 101]⟩, ⟨#[110, 111, 101, 109, 98, 101, 100]⟩, ⟨#[110, 111, 102, 114, 97, 109, 101, 115]⟩, ⟨#[112, 108, 97, 105, 110, 116, 101, 120, 116]⟩]
def nevB : List ByteArray := [⟨#[98, 97, 115, 101]⟩, ⟨#[101, 109, 98, 101, 100]⟩, ⟨#[102, 111, 114, 109]⟩, ⟨#[105, 110, 112, 117, 116]⟩, ⟨#[108, 105, 110, 107]⟩, ⟨#[109, 97, 116, 104]⟩, ⟨#[109, 101, 116, 97]⟩, ⟨#[111, 98, 106, 101, 99, 116]⟩, ⟨#[112, 97, 114, 97, 109]⟩, ⟨#[115, 101, 108, 101, 99, 116]⟩, ⟨#[115, 118, 103]⟩, ⟨#[116, 101, 109, 112, 108, 97, 116, 101]⟩, ⟨#[110, 111, 115, 99, 114, 105, 112, 116]⟩, ⟨#[102, 114, 97, 109, 101]⟩, ⟨#[102, 114, 97, 109, 101, 115, 101, 116]⟩]
theorem rawB_is : rawB.map bl = rawL := rfl
theorem nevB_is : nevB.map bl = neverL := rfl
theorem cell_row (w : World) (l : List ByteArray) (t : TypeId) (i : Nat) (y : ByteArray) (h : l[i]? = some y) : (w.alloc (.cells (strV l).toArray t)).cell? ⟨w.heap.size, i, none⟩ = some (.string y) := by
  obtain ⟨p, c, e, -, hc⟩ := strArg_row w l t
  obtain ⟨b, off, e2, h2⟩ := hc i y h
  injection e with e1
  rw [← e1] at e2
  injection e2 with e2
  injection e2 with e3 e4
  rw [← e3, ← e4, Nat.zero_add] at h2
  exact h2
theorem raw_in {s : L} (h : s ∈ rawL) : isRaw s = true := by
  unfold isRaw
  rw [decide_eq_true h]
  rfl
theorem raw_out {s : L} (h : s ∉ rawL) : isRaw s = decide (s ∈ rcL) := by
  unfold isRaw
  rw [decide_eq_false h]
  rfl

end Go.Proofs.YtebcpmgooodmpabGreatDoor

namespace Go.Proofs.YtebcpmgooodmpabGreatDoor
open Go.RowKit
open Utf1 Pol8

end Go.Proofs.YtebcpmgooodmpabGreatDoor

namespace Go.Proofs.YtebcpmgooodmpabGreatDoor
open Go.RowKit
open Utf1 Pol8

end Go.Proofs.YtebcpmgooodmpabGreatDoor

namespace Go.Proofs.YtebcpmgooodmpabGreatDoor
open Go.RowKit
open Utf1 Pol8

theorem conv_one (w : World) (t : TypeId) (c : Nat) (hc : c < 256) :
    (convert 39 9 (.slice (some ⟨w.heap.size, 0, none⟩) 1 1)).run Tryz.prog (w.alloc (.cells #[.int .u8 (c : Int)] t)) = .ok (.string ⟨#[UInt8.ofNat c]⟩) (w.alloc (.cells #[.int .u8 (c : Int)] t)) := by
  have := run_convert_bytes_back (P := Tryz.prog) (w.alloc (.cells #[.int .u8 (c : Int)] t)) 39 9 5 ⟨w.heap.size, 0, none⟩ 1 [UInt8.ofNat c] Tryz.underlying39 Tryz.underlying5 Tryz.underlying9 (by
    intro j hj
    have : j = 0 := by simp at hj; omega
    subst this
    rw [add_plain]
    have e : ([UInt8.ofNat c][0]'hj).toNat = c := toNat_ofNat hc
    rw [e]
    simp)
  exact this

theorem lns_take (head : L) : ∀ (l : List L) (i : Nat) (x : L), l[i]? = some x → lns head (l.take (i + 1)) = lns head (l.take i) ++ ln head x
  | [], i, x, h => by simp at h
  | y :: l, 0, x, h => by
    have : y = x := by simpa using h
    subst this
    simp [lns]
  | y :: l, i + 1, x, h => by
    have h' : l[i]? = some x := by simpa using h
    rw [List.take_succ_cons, List.take_succ_cons, lns, lns, lns_take head l i x h', List.append_assoc]
theorem lns_len (head : L) : ∀ l : List L, (∀ x ∈ l, x.length ≤ 100000) → (lns head l).length ≤ l.length * (head.length + 100002)
  | [], _ => by simp [lns]
  | x :: l, h => by
    have := lns_len head l (fun y hy => h y (by simp [hy]))
    have hx := h x (by simp)
    rw [lns, List.length_append]
    simp only [ln, List.length_append, List.length_cons, List.length_nil]
    rw [Nat.succ_mul]
    omega

end Go.Proofs.YtebcpmgooodmpabGreatDoor

namespace Go.Proofs.YtebcpmgooodmpabGreatDoor
open Go.RowKit
open Utf1 Pol8

theorem BoxP.drew {w wx : World} {A : Array Value} (h : BoxP w A wx) : BoxP w A wx.drew := h.keep ((Below.refl _ _).drew)
theorem lns_size (hd : ByteArray) (ss : List ByteArray) (hh : hd.size ≤ 100) (hl : ss.length ≤ 100000) (hz : ∀ x ∈ ss, x.size ≤ 100000) : (⟨(lns (bl hd) (ss.map bl)).toArray⟩ : ByteArray).size ≤ 10020000000 := by
  rw [size_mk]
  have h1 := lns_len (bl hd) (ss.map bl) (fun x hx => by
    obtain ⟨y, hy, rfl⟩ := List.mem_map.1 hx
    have := hz y hy
    rwa [bl_len])
  rw [List.length_map, bl_len] at h1
  have : ss.length * (hd.size + 100002) ≤ 100000 * 100102 := Nat.mul_le_mul hl (by omega)
  omega
theorem dec_size (n : Nat) (hn : n ≤ 1000000) : (⟨(dec n).toArray⟩ : ByteArray).size ≤ 7 := by
  rw [size_mk]
  exact dec_len n 6 (by omega)

theorem add_str (a b : ByteArray) (h : a.size + b.size ≤ 9223372036854775807) (w : World) : (Op.stringOp .add a b).run Tryz.prog w = .ok (.string (a ++ b)) w := by
  unfold Op.stringOp
  have : ¬ (((a.size + b.size : Nat) : Int) > IntKind.i64.max) := by
    show ¬ (((a.size + b.size : Nat) : Int) > 9223372036854775807)
    omega
  simp only [this, if_false]
  rfl

end Go.Proofs.YtebcpmgooodmpabGreatDoor

namespace Go.Proofs.YtebcpmgooodmpabGreatDoor
open Go.RowKit
open Utf1 Pol8

theorem drop_segs (c : UInt8) (s : L) (f i : Nat) (hfi : f ≤ i) (hi : i < s.length) (h : s[i]? = some c) (hn : ∀ j, f ≤ j → j < i → s[j]? ≠ some c) : segs c (s.drop f) = (s.drop f).take (i - f) :: segs c (s.drop (i + 1)) := by
  have e : s.drop f = (s.drop f).take (i - f) ++ c :: s.drop (i + 1) := by
    conv => lhs; rw [← List.take_append_drop (i - f) (s.drop f)]
    congr 1
    rw [List.drop_drop, show f + (i - f) = i by omega, List.drop_eq_getElem_cons hi]
    congr 1
    rw [List.getElem?_eq_getElem hi] at h
    exact Option.some.inj h
  have hno : c ∉ (s.drop f).take (i - f) := by
    intro hm
    obtain ⟨j, hj⟩ := List.mem_iff_getElem?.1 hm
    rw [List.getElem?_take] at hj
    split at hj
    · rw [List.getElem?_drop] at hj
      exact hn (f + j) (by omega) (by omega) hj
    · cases hj
  conv => lhs; rw [e]
  exact segs_semi c _ _ hno
theorem last_segs (c : UInt8) (s : L) (f : Nat) (hn : ∀ j, f ≤ j → j < s.length → s[j]? ≠ some c) : segs c (s.drop f) = [s.drop f] := by
  apply segs_end c
  intro hm
  obtain ⟨j, hj⟩ := List.mem_iff_getElem?.1 hm
  have := (List.getElem?_eq_some_iff.1 hj).1
  rw [List.length_drop] at this
  rw [List.getElem?_drop] at hj
  exact hn (f + j) (by omega) (by omega) hj

theorem beqC (a b : UInt8) : ((a.toNat : Int) == (b.toNat : Int)) = decide (a = b) := by
  by_cases h : a = b
  · rw [h, decide_eq_true rfl]
    simp
  · rw [decide_eq_false h]
    apply beq_eq_false_iff_ne.2
    intro e
    exact h (UInt8.toNat_inj.1 (by omega))

theorem num_bad {l : L} {k : Nat} {c : UInt8} (h : l[k]? = some c) (hc : dig c = false) : num l = 0 := by
  unfold num
  rw [if_neg]
  rintro ⟨h1, _⟩
  have := List.all_eq_true.1 h1 c (List.mem_of_getElem? h)
  rw [hc] at this
  cases this
theorem num_long {l : L} (h : 7 < l.length) : num l = 0 := by
  unfold num
  rw [if_neg]
  rintro ⟨_, h1⟩
  omega
theorem numTo_step {l : L} {k : Nat} {c : UInt8} (h : l[k]? = some c) : numTo 0 (l.take (k + 1)) = stepN (numTo 0 (l.take k)) c := by
  rw [List.take_add_one, h]
  exact (numTo_app (l.take k) [c] 0).trans (numTo_one _ _)
theorem numTo_lt (l : L) : ∀ n : Nat, l.all dig = true → numTo n l < (n + 1) * 10 ^ l.length := by
  induction l with
  | nil =>
    intro n _
    rw [List.length_nil, Nat.pow_zero, Nat.mul_one]
    exact Nat.lt_succ_self n
  | cons c l ih =>
    intro n h
    rw [List.all_cons, Bool.and_eq_true] at h
    have hc := of_decide_eq_true h.1
    have i1 := ih (stepN n c) h.2
    unfold stepN at i1
    have h1 : n * 10 + (c.toNat - 48) + 1 ≤ (n + 1) * 10 := by omega
    have h2 := Nat.mul_le_mul_right (10 ^ l.length) h1
    have h3 : (n + 1) * 10 * 10 ^ l.length = (n + 1) * 10 ^ (c :: l).length := by
      rw [List.length_cons, Nat.pow_succ, Nat.mul_assoc, Nat.mul_comm 10]
    rw [numTo_cons]
    unfold stepN
    rw [h3] at h2
    exact Nat.lt_of_lt_of_le i1 h2

end Go.Proofs.YtebcpmgooodmpabGreatDoor

namespace Go.Proofs.YtebcpmgooodmpabGreatDoor
open Go.RowKit
open Utf1 Pol8

theorem same_ext {a b : List ByteArray} (hl : a.length = b.length) (h : ∀ j x y, j < a.length → a[j]? = some x → b[j]? = some y → bl x = bl y) : a.map bl = b.map bl := by
  apply List.ext_getElem?
  intro j
  rw [List.getElem?_map, List.getElem?_map]
  by_cases hj : j < a.length
  · rw [List.getElem?_eq_getElem hj, List.getElem?_eq_getElem (by omega)]
    exact congrArg some (h j _ _ hj (List.getElem?_eq_getElem hj) (List.getElem?_eq_getElem (by omega)))
  · rw [List.getElem?_eq_none (by omega), List.getElem?_eq_none (by omega)]

end Go.Proofs.YtebcpmgooodmpabGreatDoor

namespace Pol8
def sameP (p q : Pol) : Bool := decide (p.ep = q.ep) && (decide (p.el = q.el) && (decide (p.at_ = q.at_) && (decide (p.sc = q.sc) && (decide (p.cl = q.cl) && (decide (p.pr = q.pr) && (decide (p.dp = q.dp) && (decide (p.nd = q.nd) && decide (p.bt = q.bt))))))))
theorem sameP_iff (p q : Pol) : sameP p q = true ↔ p = q := by
  unfold sameP
  simp only [Bool.and_eq_true, decide_eq_true_eq]
  constructor
  · rintro ⟨h1, h2, h3, h4, h5, h6, h7, h8, h9⟩
    exact Pol.ext' h1 h2 h3 h4 h5 h6 h7 h8 h9
  · rintro rfl
    exact ⟨rfl, rfl, rfl, rfl, rfl, rfl, rfl, rfl, rfl⟩
end Pol8
namespace Go.Proofs.YtebcpmgooodmpabGreatDoor
open Go.RowKit
open Utf1 Pol8

/-- Two policies' parameters in their blocks. -/
def BoxQ (w : World) (A B : Array Value) (wx : World) : Prop := wx.heap[w.heap.size]? = some (.cells A 31 (0, 0)) ∧ wx.heap[w.heap.size + 1]? = some (.cells B 31 (0, 0)) ∧ Below w.heap.size w wx
theorem BoxQ.keep {w wx wy : World} {A B : Array Value} (h : BoxQ w A B wx) (hb : Below wx.heap.size wx wy) : BoxQ w A B wy :=
  ⟨(hb.block _ (Array.getElem?_eq_some_iff.1 h.1).1).trans h.1, (hb.block _ (Array.getElem?_eq_some_iff.1 h.2.1).1).trans h.2.1, h.2.2.trans (hb.mono h.2.2.size)⟩
theorem BoxQ.a {w wx : World} {A B : Array Value} (h : BoxQ w A B wx) (i : Nat) (v : Value) (hv : A[i]? = some v) : wx.cell? ⟨w.heap.size, i, none⟩ = some v := tag_cell h.1 i v hv
theorem BoxQ.b {w wx : World} {A B : Array Value} (h : BoxQ w A B wx) (i : Nat) (v : Value) (hv : B[i]? = some v) : wx.cell? ⟨w.heap.size + 1, i, none⟩ = some v := tag_cell h.2.1 i v hv
theorem BoxQ.new (w : World) (A B : Array Value) : BoxQ w A B ((w.alloc (.cells A 31)).alloc (.cells B 31)) := by
  have s1 : (w.alloc (.cells A 31)).heap.size = w.heap.size + 1 := by simp
  have k2 := new_block (w.alloc (.cells A 31)) B 31
  rw [s1] at k2
  refine ⟨?_, k2, bel_alloc (bel_alloc (Below.refl _ _) _) _⟩
  rw [Below.heap_alloc _ _ _ (by rw [s1]; omega)]
  exact new_block _ _ _

end Go.Proofs.YtebcpmgooodmpabGreatDoor
