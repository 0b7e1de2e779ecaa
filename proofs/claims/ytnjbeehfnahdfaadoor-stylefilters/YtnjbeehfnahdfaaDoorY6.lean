/-
  style.Filter.
-/
import Derived.Test.YtnjbeehfnahdfaaDoorY5
import Derived.Lib.FrozenHead
import Derived.Lib.OthersKept
namespace Go.Proofs.YtnjbeehfnahdfaaDoor
open Go.RowKit Go.WideMaps
open Utf1 Sty

theorem bat_keep {T e : TypeId} {B b : Nat} {p : Value} {bs : List Value} {w w' : World} (h : Lib.BuilderAtF T e B b p bs w) (hb : Below w.heap.size w w') : Lib.BuilderAtF T e B b p bs w' := by
  have hl := h.lt
  obtain ⟨h1, v, h2, h3, h4⟩ := h
  exact ⟨h1, v, (hb.block b hl).trans h2, h3.kept (row := none) (below_grown hb) (Classical.em _), h4⟩
/-- The answer's builder. -/
def PB (w0 w : World) (acc : List UInt8) : Prop := Lib.IsBuilderF 41 5 w0.heap.size w0.heap.size (Lib.byteCells acc) w
theorem PB.keep {w0 w w' : World} {acc : List UInt8} (h : PB w0 w acc) (hb : Below w.heap.size w w') : PB w0 w' acc :=
  h.elim (fun x => .inl (bat_keep x hb)) (fun x => .inr (bat_keep x hb))
theorem PB.lt {w0 w : World} {acc : List UInt8} (h : PB w0 w acc) : w0.heap.size < w.heap.size := h.elim (fun x => x.lt) (fun x => x.lt)
theorem ws_st (w0 w : World) (acc : List UInt8) (s : ByteArray) (hb : Below w0.heap.size w0 w) (hu : PB w0 w acc) (hl : acc.length + s.size ≤ 1000000000) :
    Calls Tryd.prog 19 #[.pointer (some ⟨w0.heap.size, 0, none⟩), .string s] w fun e w' => e = .returned (.tuple #[.int .i64 s.size, .nilIface]) ∧ Hid (PB w0 w' (acc ++ bl s) ∧ Below w0.heap.size w0 w' ∧ Lib.OthersKept 5 (some w0.heap.size) w w') := by
  refine (Tryd.Builder_WriteString_k w0.heap.size w0.heap.size _ s w hu (by rw [Lib.byteCells_length]; omega) hb.size).mono ?_
  rintro e w' ⟨rfl, h1, b1, k1⟩
  refine ⟨rfl, hide ⟨.inr ?_, hb.trans b1, k1⟩⟩
  have e : Lib.byteCells (acc ++ bl s) = Lib.byteCells acc ++ Lib.strCells s := by rw [Lib.byteCells_append]; rfl
  rw [e]
  exact h1
theorem kept_cell {w w' : World} {B b : Nat} {cs : Array Value} {t : TypeId} (hk : Lib.OthersKept 5 (some B) w w') (h : w.heap[b]? = some (.cells cs t (0, 0))) (hb : b ≠ B) (ht : t ≠ 5) : w'.heap[b]? = some (.cells cs t (0, 0)) :=
  hk _ _ h (by intro e; injection e with e; exact hb e) (by intro c fz e; injection e with _ e; exact ht e)
theorem new_block (w : World) (A : Array Value) (t : TypeId) : (w.alloc (.cells A t)).heap[w.heap.size]? = some (.cells A t (0, 0)) := by
  show (w.heap.push _)[w.heap.size]? = _
  simp
theorem tag_cell {w : World} {b : Nat} {cs : Array Value} {t : TypeId} (h : w.heap[b]? = some (.cells cs t (0, 0))) (i : Nat) (v : Value) (hv : cs[i]? = some v) : w.cell? ⟨b, i, none⟩ = some v := by
  simp [World.cell?, h, hv]

theorem inv_new (w : World) (v : Value) :
    Inv w.heap.size v [] ((((w.alloc (.cells #[v] 22)).alloc (.cells #[.slice none 0 0] 31)).alloc (.map #[] 0)).alloc (.cells #[.map (some (w.heap.size + 1 + 1))] 32)) ∧
    Below w.heap.size w ((((w.alloc (.cells #[v] 22)).alloc (.cells #[.slice none 0 0] 31)).alloc (.map #[] 0)).alloc (.cells #[.map (some (w.heap.size + 1 + 1))] 32)) := by
  have s1 : (w.alloc (.cells #[v] 22)).heap.size = w.heap.size + 1 := by simp
  have s2 : ((w.alloc (.cells #[v] 22)).alloc (.cells #[.slice none 0 0] 31)).heap.size = w.heap.size + 2 := by simp
  have s3 : (((w.alloc (.cells #[v] 22)).alloc (.cells #[.slice none 0 0] 31)).alloc (.map #[] 0)).heap.size = w.heap.size + 3 := by simp
  have k1 := new_block w #[v] 22
  have k2 := new_block (w.alloc (.cells #[v] 22)) #[.slice none 0 0] 31
  have k4 := new_block (((w.alloc (.cells #[v] 22)).alloc (.cells #[.slice none 0 0] 31)).alloc (.map #[] 0)) #[.map (some (w.heap.size + 1 + 1))] 32
  have m3 := World.ownsMap_made (H := Unit) ((w.alloc (.cells #[v] 22)).alloc (.cells #[.slice none 0 0] 31)) Tryd.prog 9 (plainElem Tryd.prog 3)
  rw [s1] at k2
  rw [s3] at k4
  rw [s2] at m3
  refine ⟨⟨?_, ⟨.slice none 0 0, ?_, ?_⟩, k4, .map [], m3.alloc _, Maps.isMap_empty, DOk.nil _⟩, ?_⟩
  · rw [Below.heap_alloc _ _ _ (by rw [s3]; omega), Below.heap_alloc _ _ _ (by rw [s2]; omega), Below.heap_alloc _ _ _ (by rw [s1]; omega)]
    exact k1
  · rw [Below.heap_alloc _ _ _ (by rw [s3]; omega), Below.heap_alloc _ _ _ (by rw [s2]; omega)]
    exact k2
  · exact ⟨rfl, .inl ⟨rfl, rfl⟩⟩
  · exact ((((Below.refl _ w).alloc (Nat.le_refl _) _).alloc (by rw [s1]; omega) _).alloc (by rw [s2]; omega) _).alloc (by rw [s3]; omega) _

theorem wt_len : ∀ st : List NV, st.length ≤ wt st
  | [] => by simp
  | x :: r => by
    have := wt_len r
    unfold wt at this ⊢
    simp
    omega
/-- The builder, and the variable of the round beside it. -/
def BX (w1 : World) (b : Nat) (X1 X2 : ByteArray) (acc : L) (w : World) : Prop := PB w1 w acc ∧ Below w1.heap.size w1 w ∧ w.heap[b]? = some (.cells #[.string X1, .string X2] 36 (0, 0))
theorem ws_bx (w1 w : World) (b : Nat) (X1 X2 : ByteArray) (acc : L) (s : ByteArray) (h : BX w1 b X1 X2 acc w) (hb : b ≠ w1.heap.size) (hl : acc.length + s.size ≤ 1000000000) :
    Calls Tryd.prog 19 #[.pointer (some ⟨w1.heap.size, 0, none⟩), .string s] w fun e w' => e = .returned (.tuple #[.int .i64 s.size, .nilIface]) ∧ BX w1 b X1 X2 (acc ++ bl s) w' := by
  refine (ws_st w1 w acc s h.2.1 h.1 hl).mono ?_
  rintro e w' ⟨h1, h2⟩
  exact ⟨h1, h2.out.1, h2.out.2.1, kept_cell h2.out.2.2 h.2.2 hb (by decide)⟩
theorem len_bx (w1 w : World) (acc : L) (h : PB w1 w acc) :
    Calls Tryd.prog 18 #[.pointer (some ⟨w1.heap.size, 0, none⟩)] w fun e w' => e = .returned (.int .i64 (acc.length : Int)) ∧ w' = w := by
  have := Tryd.Builder_Len_f w1.heap.size w1.heap.size (Lib.byteCells acc) w h
  rw [Lib.byteCells_length] at this
  exact this
theorem last_of {D : DataW Unit} {st : List NV} (h : DOk D st) {i : Nat} {x : NV} (hx : st[i]? = some x) {c : Int} (hc : D.atKey (.string x.1) (.lit (.int .i64 0)) = .lit (.int .i64 c)) : (c = (i : Int) ∧ isLast st i) ∨ (c ≠ (i : Int) ∧ ¬ isLast st i) := by
  obtain ⟨j, h1, h2, y, h3, h4⟩ := h i x hx
  rw [h1] at hc
  have hcj : c = (j : Int) := by
    injection hc with e
    injection e with _ e
    exact e.symm
  by_cases e : j = i
  · left
    refine ⟨by rw [hcj, e], ?_⟩
    intro k a b hk ha hb hab
    rw [hx] at hb
    cases hb
    obtain ⟨j2, g1, g2, _⟩ := h k a ha
    rw [hab, h1] at g1
    have : j2 = j := by
      injection g1 with e'
      injection e' with _ e'
      omega
    omega
  · right
    refine ⟨by rw [hcj]; omega, ?_⟩
    intro hl
    exact hl j y x (by omega) h3 hx h4

set_option maxRecDepth 100000 in
set_option maxHeartbeats 16000000 in
theorem filter_any (s : ByteArray) (v : Value) (ss : List ByteArray) (hs : s.size ≤ 90000) (hl : ss.length ≤ 100000) (w : World) (hv : StrArg w v ss) :
    Calls Tryd.prog 10 #[.string s, v] w fun e w' => e = .returned (.string ⟨(filt (ss.map bl) (bl s)).toArray⟩) ∧ Below w.heap.size w w' := by
  have hmm := @run_makeMap Tryd.prog
  have hmf : ∀ (fn : Fn) (first cap : Array Value) (w : World), (Instr.makeFunc fn first cap).run Tryd.prog w = .ok (.func fn first cap) w := fun _ _ _ _ => rfl
  have hz3 : ∀ w : World, (zeroValue 3).run Tryd.prog w = .ok (.int .i64 0) w := fun w => by kernel_rfl
  obtain ⟨st, hst⟩ : ∃ st, st = stay (ss.map bl) (bl s) := ⟨_, rfl⟩
  obtain ⟨n, hn⟩ : ∃ n, n = st.length := ⟨_, rfl⟩
  have HN := hide hn
  have HOUT : Hid (filt (ss.map bl) (bl s) = outTo st n) := hide (by rw [hn, outTo_all, hst]; rfl)
  have HWT : Hid (wt st ≤ 300000) := hide (by
    have h1 := wt_filter (keep (ss.map bl)) (prts (bl s))
    have h2 := prts_wt (bl s)
    rw [bl_len] at h2
    rw [hst]
    unfold stay
    omega)
  have hwl : n ≤ 300000 := by
    have h1 := HWT.out
    have h2 := wt_len st
    omega
  have HC : Hid (∀ p cap, v = .slice p ss.length cap → Calls Tryd.prog 15 #[.string s, tellV w.heap.size] ((((w.alloc (.cells #[.slice p ss.length cap] 22)).alloc (.cells #[.slice none 0 0] 31)).alloc (.map #[] 0)).alloc (.cells #[.map (some (w.heap.size + 1 + 1))] 32)) fun e w' => e = .returned (.tuple #[]) ∧ Hid (Inv w.heap.size v st w' ∧ Below w.heap.size w w')) := hide (by
    intro p cap e
    obtain ⟨h1, h2⟩ := inv_new w v
    rw [← e]
    refine (each_any w.heap.size v ss s w _ rfl h1 hv h2 hs hl).mono ?_
    rintro e w' ⟨h3, h4, h5⟩
    exact ⟨h3, hide ⟨by rw [hst]; exact h4, h2.trans h5⟩⟩)
  rw [HOUT.out]
  obtain ⟨p, cap, rfl, -, -⟩ := hv
  have HC := hide (HC.out p cap rfl)
  clear hst HOUT hn
  go_enter Tryd.func10, Tryd.ntmps10
  go_wp2_with fail
  refine HC.out.mono ?_
  rintro e w1 ⟨rfl, HI⟩
  clear HC hmm hmf
  have hb1 : Below w1.heap.size w1 (w1.alloc (.cells #[.pointer none, .slice none 0 0] 41)) := (Below.refl _ _).alloc (Nat.le_refl _) _
  have HB1 := hide hb1
  have HU1 : Hid (PB w1 (w1.alloc (.cells #[.pointer none, .slice none 0 0] 41)) []) := hide (Lib.IsBuilderF.of (Lib.fresh_isBuilder 41 5 w1))
  obtain ⟨u, hsb, hown⟩ := HI.out.1.sb
  obtain ⟨sp, sc, rfl⟩ : ∃ sp sc, u = .slice sp n sc := by
    rcases hown.2 with ⟨rfl, h0⟩ | ⟨g, cap, cur, rfl, _⟩
    · exact ⟨none, 0, by rw [HN.out, h0]⟩
    · exact ⟨_, _, by rw [HN.out]⟩
  have cS := cell_keep (cell_of_one hsb) hb1
  have HOW := hide hown
  clear hsb hown hb1
  go_wp2_with fail
  clear cS
  go_loopg [16] n (fun g v16 wr => ∃ i : Nat, i + g = n ∧ v16 = .int .i64 (i : Int) ∧ Hid (PB w1 wr (outTo st i) ∧ Below w1.heap.size w1 wr))
  case atStart => exact ⟨0, by omega, rfl, hide ⟨HU1.out, HB1.out⟩⟩
  case round =>
    obtain ⟨i, hi, rfl, HR⟩ := hrel
    clear HU1 HB1
    by_cases hlt : i < n
    · obtain ⟨x, hx⟩ : ∃ x, st[i]? = some x := ⟨_, List.getElem?_eq_getElem (by rw [← HN.out]; exact hlt)⟩
      obtain ⟨g, rfl⟩ : ∃ g, sp = some ⟨g, 0, none⟩ := by
        rcases HOW.out.2 with ⟨e, h0⟩ | ⟨g, cap, cur, e, _⟩
        · have := HN.out; omega
        · injection e with e; exact ⟨g, e⟩
      obtain ⟨r0, r1⟩ := rowV_at st i x hx
      have hos := HOW.out
      rw [← HN.out] at hos
      have x0 := hos.cellAt (2 * i) (by omega)
      have x1 := hos.cellAt (2 * i + 1) (by omega)
      rw [r0] at x0
      rw [r1] at x1
      have x0 := cell_keep x0 HR.out.2
      have x1 := cell_keep x1 HR.out.2
      rw [show 2 * i = i * 2 by omega] at x0 x1
      have hwi : (outTo st i).length + (x.1.length + x.2.length + 4) ≤ 300000 := by
        have h1 := outTo_len st i
        have h2 := wt_take st (i + 1)
        have hw : wt (st.take (i + 1)) = wt (st.take i) + (x.1.length + x.2.length + 4) := by
          rw [List.take_add_one, hx]
          unfold wt
          simp
        have h3 := HWT.out
        omega
      obtain ⟨w2, hw2⟩ : ∃ w2, w2 = wr.alloc (.cells #[.string ⟨x.1.toArray⟩, .string ⟨x.2.toArray⟩] 36) := ⟨_, rfl⟩
      have hb2 : Below wr.heap.size wr w2 := by rw [hw2]; exact (Below.refl _ _).alloc (Nat.le_refl _) _
      have hb12 : Below w1.heap.size w1 w2 := HR.out.2.trans (hb2.mono HR.out.2.size)
      have hbx : w2.heap[wr.heap.size]? = some (.cells #[.string ⟨x.1.toArray⟩, .string ⟨x.2.toArray⟩] 36 (0, 0)) := by rw [hw2]; exact new_block _ _ _
      have hlt1 := HR.out.1.lt
      have hI2 := HI.out.1.keep hb12
      have cM := cell_of_one hI2.mb
      obtain ⟨D, hmap, -, hok⟩ := hI2.mp
      obtain ⟨c, hlk, hat, wc⟩ := hmap.lookup_int (Maps.string_keyed Tryd.underlying9) Tryd.underlying32 Tryd.underlying3 (hz3 _) (keyOf_string_mk (P := Tryd.prog) Tryd.underlying9 (s := ⟨x.1.toArray⟩) (by rw [size_mk]; unfold maxLen; omega))
      have HLS := hide (last_of hok hx hat)
      have HX : Hid (BX w1 wr.heap.size ⟨x.1.toArray⟩ ⟨x.2.toArray⟩ (outTo st i) w2) := hide ⟨HR.out.1.keep hb2, hb12, hbx⟩
      have HSZ : Hid ((⟨x.1.toArray⟩ : ByteArray).size = x.1.length ∧ (⟨x.2.toArray⟩ : ByteArray).size = x.2.length) := hide ⟨size_mk _, size_mk _⟩
      have HBL : Hid (bl ⟨x.1.toArray⟩ = x.1 ∧ bl ⟨x.2.toArray⟩ = x.2) := hide ⟨rfl, rfl⟩
      have y0 := tag_cell hbx 0 _ rfl
      have HLE := hide (outTo_last st i x · hx)
      have HLK := hide (outTo_skip st i)
      have HWI := hide hwi
      generalize (⟨x.1.toArray⟩ : ByteArray) = X1 at *
      generalize (⟨x.2.toArray⟩ : ByteArray) = X2 at *
      have HHX := hide hx
      clear hx r0 r1 hos hb2 hb12 hbx hI2 hmap hok hat wc hwi HR
      go_upto_region 8 with fail
      rw [← hw2]
      clear hw2 x0 x1
      rcases HLS.out with ⟨hc, hlast⟩ | ⟨hc, hlast⟩
      · subst hc
        have HEM := hide (HLE.out hlast)
        clear HLS HLE HLK hlast
        have hne : (((i : Int)) != (i : Int)) = false := by simp
        obtain ⟨acc, hacc⟩ : ∃ acc, acc = outTo st i := ⟨_, rfl⟩
        rw [← hacc] at HX HEM HWI
        clear hacc
        have cl := fun w h => len_bx w1 w acc h
        have HCL := hide cl
        clear cl
        by_cases ha : acc = []
        · subst ha
          have HE2 : Hid (outTo st (i + 1) = [] ++ bl X1 ++ bl ⟨#[58, 32]⟩ ++ bl X2) := hide (by rw [HEM.out, HBL.out.1, HBL.out.2]; rfl)
          have CL := hide (HCL.out w2 HX.out.1)
          have C1 := hide (ws_bx w1 w2 wr.heap.size X1 X2 [] X1 HX.out (by omega) (by have h1 := HWI.out; have h2 := HSZ.out; simp; omega))
          clear HCL HEM
          go_wp2_with fail
          refine CL.out.mono ?_
          rintro e w3 ⟨rfl, rfl⟩
          clear CL
          go_wp2_with fail
          refine C1.out.mono ?_
          rintro e w4 ⟨rfl, h4⟩
          have C2 := hide (ws_bx w1 w4 wr.heap.size X1 X2 _ ⟨#[58, 32]⟩ h4 (by omega) (by have h1 := HWI.out; have h2 := HSZ.out; simp only [List.length_append, bl_len]; show _ + 2 ≤ _; simp; omega))
          clear C1 HX y0 h4
          go_wp2_with fail
          refine C2.out.mono ?_
          rintro e w5 ⟨rfl, h5⟩
          have y1 := tag_cell h5.2.2 1 _ rfl
          have C3 := hide (ws_bx w1 w5 wr.heap.size X1 X2 _ X2 h5 (by omega) (by have h1 := HWI.out; have h2 := HSZ.out; simp only [List.length_append, bl_len]; show _ + 2 + _ ≤ _; simp; omega))
          clear C2 h5
          go_wp2_with fail
          refine C3.out.mono ?_
          rintro e w6 ⟨rfl, h6⟩
          have HR2 : Hid (PB w1 w6 (outTo st (i + 1)) ∧ Below w1.heap.size w1 w6) := hide ⟨by rw [HE2.out]; exact h6.1, h6.2.1⟩
          clear C3 h6 y1
          go_wp2_with fail
          go_roundg (gk - 1)
          case measure => omega
          case rel => exact ⟨i + 1, by omega, by first | rfl | simp, HR2⟩
        · have HE2 : Hid (outTo st (i + 1) = acc ++ bl ⟨#[59, 32]⟩ ++ bl X1 ++ bl ⟨#[58, 32]⟩ ++ bl X2) := hide (by rw [HEM.out, HBL.out.1, HBL.out.2]; unfold emit; rw [if_neg ha])
          have CL := hide (HCL.out w2 HX.out.1)
          have C0 := hide (ws_bx w1 w2 wr.heap.size X1 X2 acc ⟨#[59, 32]⟩ HX.out (by omega) (by have h1 := HWI.out; show _ + 2 ≤ _; omega))
          have hpos : 0 < acc.length := List.length_pos_iff.2 ha
          generalize hal : acc.length = al at *
          have hgt : decide ((0 : Int) < (al : Int)) = true := decide_eq_true (by omega)
          have HAL := hide hal
          clear HCL HEM ha hal
          go_wp2_with fail
          refine CL.out.mono ?_
          rintro e w3 ⟨rfl, rfl⟩
          clear CL y0
          go_wp2_with fail
          refine C0.out.mono ?_
          rintro e w4 ⟨rfl, h4⟩
          have y0 := tag_cell h4.2.2 0 _ rfl
          have C1 := hide (ws_bx w1 w4 wr.heap.size X1 X2 _ X1 h4 (by omega) (by have h1 := HWI.out; have h2 := HSZ.out; rw [List.length_append, bl_len, HAL.out]; show _ + 2 + _ ≤ _; omega))
          clear C0 HX h4
          go_wp2_with fail
          refine C1.out.mono ?_
          rintro e w5 ⟨rfl, h5⟩
          have C2 := hide (ws_bx w1 w5 wr.heap.size X1 X2 _ ⟨#[58, 32]⟩ h5 (by omega) (by have h1 := HWI.out; have h2 := HSZ.out; rw [List.length_append, List.length_append, bl_len, bl_len, HAL.out]; show _ + 2 + _ + 2 ≤ _; omega))
          clear C1 h5 y0
          go_wp2_with fail
          refine C2.out.mono ?_
          rintro e w6 ⟨rfl, h6⟩
          have y1 := tag_cell h6.2.2 1 _ rfl
          have C3 := hide (ws_bx w1 w6 wr.heap.size X1 X2 _ X2 h6 (by omega) (by have h1 := HWI.out; have h2 := HSZ.out; rw [List.length_append, List.length_append, List.length_append, bl_len, bl_len, bl_len, HAL.out]; show _ + 2 + _ + 2 + _ ≤ _; omega))
          clear C2 h6
          go_wp2_with fail
          refine C3.out.mono ?_
          rintro e w7 ⟨rfl, h7⟩
          have HR2 : Hid (PB w1 w7 (outTo st (i + 1)) ∧ Below w1.heap.size w1 w7) := hide ⟨by rw [HE2.out]; exact h7.1, h7.2.1⟩
          clear C3 h7 y1
          go_wp2_with fail
          go_roundg (gk - 1)
          case measure => omega
          case rel => exact ⟨i + 1, by omega, by first | rfl | simp, HR2⟩
      · have hne : (c != (i : Int)) = true := by simpa using hc
        have HR2 : Hid (PB w1 w2 (outTo st (i + 1)) ∧ Below w1.heap.size w1 w2) := hide ⟨by rw [HLK.out hlast]; exact HX.out.1, HX.out.2.1⟩
        clear HLS HLE HLK hlast hc HX
        go_wp2_with fail
        go_roundg (gk - 1)
        case measure => omega
        case rel => exact ⟨i + 1, by omega, by first | rfl | simp, HR2⟩
    · have hin : i = n := by omega
      subst hin
      have HS := hide (Tryd.Builder_String_any_k w1.heap.size w1.heap.size (outTo st i) wr HR.out.1 HR.out.2.size)
      go_wp2_with fail
      refine HS.out.mono ?_
      rintro e w3 ⟨rfl, _, m2, _⟩
      have HB3 := hide (HI.out.2.trans ((HR.out.2.trans m2).mono HI.out.2.size))
      clear m2 HS HR
      go_wp2_with fail
      go_ret
      exact ⟨rfl, HB3.out⟩
end Go.Proofs.YtnjbeehfnahdfaaDoor
