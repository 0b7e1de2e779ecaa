/-
  The program's own Attr, and the closures of Stricter.
-/
import Derived.Test.YtlabdbkmlkmnkaaR3
import Derived.Test.YtlabdbkmlkmnkaaR4
import Derived.Test.YtlabdbkmlkmnkaaPC
namespace Go.Proofs.Ytlabdbkmlkmnkaa
open Go.RowKit
open Utf1 Pol8

/-- The closure over a list. -/
abbrev inV (B : Nat) : Value := .func (.func 42) #[] #[.pointer (some ⟨B, 0, none⟩)]
theorem ponein_any (B : Nat) (v : Value) (ss : List ByteArray) (hl : ss.length ≤ 100000) (x : ByteArray) (w : World) (hb : w.heap[B]? = some (.cells #[v] 28 (0, 0))) (hv : StrArg w v ss) :
    Calls Try.prog 42 #[.string x, .pointer (some ⟨B, 0, none⟩)] w fun e w' => e = .returned (.bool (decide (bl x ∈ ss.map bl))) ∧ w' = w := by
  have C1 := hide (contains_any x v ss hl w hv)
  generalize decide (bl x ∈ ss.map bl) = R at C1 ⊢
  have y0 := tag_cell hb 0 _ rfl
  obtain ⟨q, cap, rfl, -, -⟩ := hv
  clear hb
  go_enter Try.func42, Try.ntmps42
  go_wp2_with fail
  refine C1.out.mono ?_
  rintro e w1 ⟨rfl, rfl⟩
  clear C1
  go_wp2_with fail
  go_ret
  exact ⟨rfl, rfl⟩
def inL (l : List L) (x : L) : Bool := decide (x ∈ l)
/-- What a closure over a list tells, and that it only reads. -/
def InQ (B : Nat) (l : List L) (w : World) : Prop := ∀ (W : World) (x : ByteArray), Below w.heap.size w W → Calls Try.prog 42 #[.string x, .pointer (some ⟨B, 0, none⟩)] W fun e w' => e = .returned (.bool (inL l (bl x))) ∧ w' = W
theorem InQ.later {B : Nat} {l : List L} {w W : World} (h : InQ B l w) (hb : Below w.heap.size w W) : InQ B l W := fun W' x hb' => h W' x (bel2 hb hb')
theorem InQ.tells {B : Nat} {l : List L} {w : World} (h : InQ B l w) : Tells 42 #[.pointer (some ⟨B, 0, none⟩)] (inL l) w := by
  intro W x _ hbb
  rw [show (#[.string x] ++ #[.pointer (some ⟨B, 0, none⟩)] : Array Value) = #[.string x, .pointer (some ⟨B, 0, none⟩)] by simp]
  exact (h W x hbb).mono fun _ _ ⟨h1, h2⟩ => ⟨h1, h2 ▸ Below.refl _ _⟩
theorem inQ_of (B : Nat) (v : Value) (ss : List ByteArray) (hl : ss.length ≤ 100000) (w : World) (hb : w.heap[B]? = some (.cells #[v] 28 (0, 0))) (hv : StrArg w v ss) : InQ B (ss.map bl) w :=
  fun W x hbb => ponein_any B v ss hl x W ((hbb.block _ (Array.getElem?_eq_some_iff.1 hb).1).trans hb) (hv.below hbb)
theorem ent_in : ∀ args w, (callFunc 42 args).run Try.prog w = .ok (.enter 42 args) w := enters_of Try.func42 (by kernel_rfl) rfl
theorem poneOf_any (v : Value) (ss : List ByteArray) (hl : ss.length ≤ 100000) (w : World) (hv : StrArg w v ss) :
    Calls Try.prog 23 #[v] w fun e w' => (∃ B, e = .returned (inV B) ∧ InQ B (ss.map bl) w') ∧ Below w.heap.size w w' := by
  have hmf : ∀ (fn : Fn) (first cap : Array Value) (w : World), (Instr.makeFunc fn first cap).run Try.prog w = .ok (.func fn first cap) w := fun _ _ _ _ => rfl
  obtain ⟨w1, hw1⟩ : ∃ w1, w1 = w.alloc (.cells #[v] 28) := ⟨_, rfl⟩
  have hb1 : Below w.heap.size w w1 := by rw [hw1]; exact bel_alloc (Below.refl _ _) _
  have hk : w1.heap[w.heap.size]? = some (.cells #[v] 28 (0, 0)) := by rw [hw1]; exact new_block _ _ _
  have HT : Hid ((∃ B, Ending.returned (inV w.heap.size) = .returned (inV B) ∧ InQ B (ss.map bl) w1) ∧ Below w.heap.size w w1) := hide ⟨⟨w.heap.size, rfl, inQ_of _ v ss hl w1 hk (hv.below hb1)⟩, hb1⟩
  obtain ⟨q, cap, rfl, -, -⟩ := hv
  clear hk hb1
  go_enter Try.func23, Try.ntmps23
  go_wp2_with fail
  rw [← hw1]
  clear hw1 hmf
  go_wp2_with fail
  go_ret
  exact HT.out

theorem star_app (a b : L) (h : (46 : UInt8) ∉ a) : star (a ++ 46 :: b) = 42 :: 46 :: b := by
  unfold star
  rw [dw_app a b h]
theorem dw_none : ∀ (a : L), (46 : UInt8) ∉ a → a.dropWhile (fun c => decide (c ≠ 46)) = []
  | [], _ => rfl
  | c :: a, h => by
    rw [List.dropWhile_cons, if_pos (by
      apply decide_eq_true
      intro hc
      exact h (by simp [hc]))]
    exact dw_none a (fun hm => h (by simp [hm]))
theorem star_none (a : L) (h : (46 : UInt8) ∉ a) : star a = [42] := by
  unfold star
  rw [dw_none a h]
theorem dw_len : ∀ (a : L), (a.dropWhile (fun c => decide (c ≠ 46))).length ≤ a.length
  | [] => Nat.le_refl _
  | c :: a => by
    rw [List.dropWhile_cons]
    split
    · have := dw_len a
      rw [List.length_cons]
      omega
    · exact Nat.le_refl _
theorem star_len (a : L) : (star a).length ≤ a.length + 1 := by
  unfold star
  have := dw_len a
  rw [List.length_cons]
  omega
set_option maxHeartbeats 4000000 in
theorem pofAll_any (s : ByteArray) (hs : s.size ≤ 100000) (w : World) :
    Calls Try.prog 25 #[.string s] w fun e w' => e = .returned (.string ⟨(star (bl s)).toArray⟩) ∧ Below w.heap.size w w' := by
  by_cases hd : (46 : UInt8) ∈ bl s
  · obtain ⟨n, a, hna, hn, hsz, -, -, -⟩ := split_ba s 46 hd
    have c1 := fun w => cut_some s 46 n a hna hn hs w
    have HE : Hid ((⟨#[42, 46]⟩ ++ a : ByteArray) = ⟨(star (bl s)).toArray⟩) := hide (by
      apply ba_ext
      rw [app_bl, hna, star_app _ _ hn]
      rfl)
    have hsa : a.size ≤ 100000 := by omega
    clear hna hn hsz hd
    go_enter Try.func25, Try.ntmps25
    go_wp2_with fail
    refine (c1 _).mono ?_
    rintro e w1 ⟨rfl, hb1⟩
    clear c1
    go_wp2_with fail
    go_ret
    exact ⟨ret_str HE.out, hb1⟩
  · have c1 := fun w => cut_none s 46 hd w
    rw [star_none _ hd]
    clear hd
    go_enter Try.func25, Try.ntmps25
    go_wp2_with fail
    refine (c1 _).mono ?_
    rintro e w1 ⟨rfl, hb1⟩
    clear c1
    go_wp2_with fail
    go_ret
    exact ⟨rfl, hb1⟩
end Go.Proofs.Ytlabdbkmlkmnkaa
