/-
  The program's own Text: its lines, its builder.
-/
import Derived.Test.YtmogplecohkjcaaGreatDoorR5
import Derived.Laws.EntriesVeiled
import Derived.Lib.FrozenHead
import Derived.Lib.OthersKept
namespace Pol8
theorem lns_snoc (k : L) : ∀ (l : List L) (i : Nat) (x : L), l[i]? = some x → lns k (l.take (i + 1)) = lns k (l.take i) ++ ln k x
  | [], i, x, h => by simp at h
  | y :: l, 0, x, h => by
    have : y = x := by simpa using h
    subst this
    simp [lns]
  | y :: l, i + 1, x, h => by
    have h' : l[i]? = some x := by simpa using h
    rw [List.take_succ_cons, lns, lns_snoc k l i x h', List.take_succ_cons, lns, List.append_assoc]
theorem lns_take_le (k : L) : ∀ (l : List L) (i : Nat), (lns k (l.take i)).length ≤ (lns k l).length
  | [], i => by simp
  | y :: l, 0 => by simp [lns]
  | y :: l, i + 1 => by
    rw [List.take_succ_cons, lns, lns, List.length_append, List.length_append]
    have := lns_take_le k l i
    omega
theorem lns_bound (k : L) (M : Nat) : ∀ (l : List L), (∀ x ∈ l, x.length ≤ M) → (lns k l).length ≤ l.length * (M + k.length + 2)
  | [], _ => by simp [lns]
  | y :: l, h => by
    rw [lns, List.length_append, List.length_cons, Nat.succ_mul]
    have h1 := lns_bound k M l (fun x hx => h x (by simp [hx]))
    have h2 := h y (by simp)
    have h3 : (ln k y).length = k.length + 1 + y.length + 1 := by
      simp [ln]
      omega
    omega
end Pol8
namespace Go.Proofs.YtmogplecohkjcaaGreatDoor
open Go.RowKit
open Utf1 Pol8

theorem bat_keep {T e : TypeId} {B b : Nat} {p : Value} {bs : List Value} {w w' : World} (h : Lib.BuilderAtF T e B b p bs w) (hb : Below w.heap.size w w') : Lib.BuilderAtF T e B b p bs w' := by
  have hl := h.lt
  obtain ⟨h1, v, h2, h3, h4⟩ := h
  exact ⟨h1, v, (hb.block b hl).trans h2, h3.kept (row := none) (below_grown hb) (Classical.em _), h4⟩
/-- The answer's builder. -/
def PB (w0 w : World) (acc : List UInt8) : Prop := Lib.IsBuilderF 85 5 w0.heap.size w0.heap.size (Lib.byteCells acc) w
theorem PB.keep {w0 w w' : World} {acc : List UInt8} (h : PB w0 w acc) (hb : Below w.heap.size w w') : PB w0 w' acc :=
  h.elim (fun x => .inl (bat_keep x hb)) (fun x => .inr (bat_keep x hb))
theorem PB.lt {w0 w : World} {acc : List UInt8} (h : PB w0 w acc) : w0.heap.size < w.heap.size := h.elim (fun x => x.lt) (fun x => x.lt)
theorem kept_cell {w w' : World} {B b : Nat} {cs : Array Value} {t : TypeId} (hk : Lib.OthersKept 5 (some B) w w') (h : w.heap[b]? = some (.cells cs t (0, 0))) (hb : b ≠ B) (ht : t ≠ 5) : w'.heap[b]? = some (.cells cs t (0, 0)) :=
  hk _ _ h (by intro e; injection e with e; exact hb e) (by intro c fz e; injection e with _ e; exact ht e)
/-- The closure that writes a line. -/
abbrev lineV (b : Nat) : Value := .func (.func 91) #[] #[.pointer (some ⟨b, 0, none⟩)]
/-- The builder, and the variable that holds the closure. -/
def TS (w0 w : World) (acc : L) : Prop := PB w0 w acc ∧ Below w0.heap.size w0 w ∧ w.heap[w0.heap.size + 1]? = some (.cells #[lineV w0.heap.size] 117 (0, 0))
theorem TS.keep {w0 w w' : World} {acc : L} (h : TS w0 w acc) (hb : Below w.heap.size w w') : TS w0 w' acc :=
  ⟨h.1.keep hb, h.2.1.trans (hb.mono h.2.1.size), (hb.block _ (Array.getElem?_eq_some_iff.1 h.2.2).1).trans h.2.2⟩
theorem ws_ts (w0 w : World) (acc : L) (s : ByteArray) (h : TS w0 w acc) (hl : acc.length + s.size ≤ 100000000000000) :
    Calls Tryz.prog 89 #[.pointer (some ⟨w0.heap.size, 0, none⟩), .string s] w fun e w' => e = .returned (.tuple #[.int .i64 s.size, .nilIface]) ∧ TS w0 w' (acc ++ bl s) := by
  refine (Tryz.Builder_WriteString_k w0.heap.size w0.heap.size _ s w h.1 (by rw [Lib.byteCells_length]; omega) h.2.1.size).mono ?_
  rintro e w' ⟨rfl, h1, b1, k1⟩
  refine ⟨rfl, .inr ?_, h.2.1.trans b1, kept_cell k1 h.2.2 (by omega) (by decide)⟩
  have e : Lib.byteCells (acc ++ bl s) = Lib.byteCells acc ++ Lib.strCells s := by rw [Lib.byteCells_append]; rfl
  rw [e]
  exact h1
set_option maxHeartbeats 4000000 in
theorem pline_st (w0 w : World) (acc : L) (W X : ByteArray) (hW : W.size ≤ 1000000) (hX : X.size ≤ 1000000) (h : TS w0 w acc) (hl : acc.length + (ln (bl W) (bl X)).length ≤ 100000000000000) :
    Calls Tryz.prog 91 #[.string W, .string X, .pointer (some ⟨w0.heap.size, 0, none⟩)] w fun e w' => e = .returned (.tuple #[]) ∧ TS w0 w' (acc ++ ln (bl W) (bl X)) := by
  have HE : Hid (bl (W ++ ⟨#[32]⟩ ++ X ++ ⟨#[10]⟩) = ln (bl W) (bl X)) := hide (by
    rw [app_bl, app_bl, app_bl]
    rfl)
  have C1 := hide (ws_ts w0 w acc (W ++ ⟨#[32]⟩ ++ X ++ ⟨#[10]⟩) h (by rw [← bl_len, HE.out]; exact hl))
  rw [HE.out] at C1
  clear h hl HE
  go_enter Tryz.func91, Tryz.ntmps91
  go_wp2_with fail
  refine C1.out.mono ?_
  rintro e w1 ⟨rfl, h1⟩
  have H1 := hide h1
  clear h1 C1
  go_wp2_with fail
  go_end0
  exact ⟨rfl, H1.out⟩

/-- The closure that writes the lines of a list. -/
abbrev listV (b : Nat) : Value := .func (.func 93) #[] #[.pointer (some ⟨b + 1, 0, none⟩)]
set_option maxRecDepth 100000 in
set_option maxHeartbeats 8000000 in
theorem plist_st (w0 w : World) (acc : L) (W : ByteArray) (hW : W.size ≤ 1000000) (P k : Nat) (v : Value) (ss : List ByteArray) (hn : ss.length ≤ 100000) (hz : ∀ x ∈ ss, x.size ≤ 100000) (h : TS w0 w acc) (hc : w.cell? ⟨P, k, none⟩ = some v) (hv : StrArg w0 v ss) (hl : acc.length + (lns (bl W) (ss.map bl)).length ≤ 100000000000000) :
    Calls Tryz.prog 93 #[.string W, .pointer (some ⟨P, k, none⟩), .pointer (some ⟨w0.heap.size + 1, 0, none⟩)] w fun e w' => e = .returned (.tuple #[]) ∧ TS w0 w' (acc ++ lns (bl W) (ss.map bl)) := by
  have HV := hide hv
  have HT := hide h
  have HZ := hide hz
  have HL := hide hl
  obtain ⟨q, cap, rfl, -, -⟩ := hv
  obtain ⟨N, hN⟩ : ∃ N, N = ss.length := ⟨_, rfl⟩
  rw [← hN] at hn HV hc
  have HN := hide hN
  clear h hz hl hN
  go_enter Tryz.func93, Tryz.ntmps93
  go_wp2_with fail
  clear hc
  go_loopg [11] N (fun g v wx => ∃ i : Nat, i + g = N ∧ v = .int .i64 (i : Int) ∧ Hid (TS w0 wx (acc ++ lns (bl W) ((ss.map bl).take i))))
  case atStart => exact ⟨0, by omega, rfl, hide (by rw [List.take_zero]; show TS w0 w (acc ++ []); rw [List.append_nil]; exact HT.out)⟩
  case round =>
    obtain ⟨i, hi, rfl, HR⟩ := hrel
    clear HT
    by_cases hlt : i < N
    · obtain ⟨y, hy⟩ : ∃ y, ss[i]? = some y := ⟨_, List.getElem?_eq_getElem (by rw [← HN.out]; exact hlt)⟩
      obtain ⟨b, off, rfl, c0⟩ : ∃ b off, q = some ⟨b, off, none⟩ ∧ wr.cell? ⟨b, off + i, none⟩ = some (.string y) := by
        obtain ⟨p', cap', e, -, hc⟩ := HV.out.below HR.out.2.1
        injection e with e1 e2 e3
        obtain ⟨b, off, e4, h⟩ := hc i y hy
        exact ⟨b, off, e1.trans e4, h⟩
      have cl : wr.cell? ⟨w0.heap.size + 1, 0, none⟩ = some (lineV w0.heap.size) := tag_cell HR.out.2.2 0 _ rfl
      have hst : lns (bl W) ((ss.map bl).take (i + 1)) = lns (bl W) ((ss.map bl).take i) ++ ln (bl W) (bl y) := lns_snoc _ _ i _ (by rw [List.getElem?_map, hy]; rfl)
      have C1 := hide (pline_st w0 wr _ W y hW (by have := HZ.out y (List.mem_of_getElem? hy); omega) HR.out (by
        have h1 := lns_take_le (bl W) (ss.map bl) (i + 1)
        have h2 := HL.out
        rw [hst, List.length_append] at h1
        rw [List.length_append]
        omega))
      rw [List.append_assoc, ← hst] at C1
      clear hy hst HR
      go_wp2_with fail
      refine C1.out.mono ?_
      rintro e w3 ⟨rfl, h3⟩
      have H3 := hide h3
      clear h3 C1 c0 cl
      go_wp2_with fail
      go_roundg (gk - 1)
      case measure => omega
      case rel => exact ⟨i + 1, by omega, by first | rfl | simp, H3⟩
    · have HE : Hid (TS w0 wr (acc ++ lns (bl W) (ss.map bl))) := hide (by
        have h1 := HR.out
        rw [List.take_of_length_le (by rw [List.length_map, ← HN.out]; omega)] at h1
        exact h1)
      clear HR
      go_wp2_with fail
      go_end0
      exact ⟨rfl, HE.out⟩
theorem ent_list : ∀ args w, (callFunc 93 args).run Tryz.prog w = .ok (.enter 93 args) w := enters_of Tryz.func93 (by kernel_rfl) rfl
end Go.Proofs.YtmogplecohkjcaaGreatDoor
