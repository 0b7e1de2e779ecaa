/-
  The program's own At.
-/
import Derived.Test.YtlabdbkmlkmnkaaCO
namespace Go.Proofs.Ytlabdbkmlkmnkaa
open Go.RowKit
open Utf1 Pol8

/-- What is asked of chain.At. -/
def AtC : Prop := ∀ (v : Value) (ts : List It) (ep : Int) (w : World), (∀ t ∈ ts, fits t.p) → ts.length ≤ 100000 → PolRow w v ts →
  Calls Try.prog 14 #[v, .int .i64 ep] w fun e w' => ((∃ (i : Nat) (t t' : It), ts[i]? = some t ∧ t.p.ep = ep ∧ (∀ (j : Nat) (x : It), j < i → ts[j]? = some x → x.p.ep ≠ ep) ∧ e = .returned (.tuple #[t'.val, .bool true]) ∧ t'.p = t.p ∧ t'.ok w') ∨ ((∀ t ∈ ts, t.p.ep ≠ ep) ∧ e = .returned (.tuple #[.agg zeroP, .bool false]))) ∧ Below w.heap.size w w'
theorem results_row_tmp {P : Program} {fn : Func} {p u : Tmp} {ty : TypeId} (h : fn.results = #[.cell p ty, .tmp u]) (tmps : Array Value) (w : World) (g : Nat) (t : TypeId) (cs : Array Value) (fr : Nat × Nat) (d : TypeDesc)
    (hp : tmps.getD p undef = .pointer (some ⟨g, 0, none⟩)) (hg : w.heap[g]? = some (.cells cs t fr))
    (hu : P.underlying ty = some d) (hd : (match d with | .struct _ | .array _ _ => true | _ => false) = true) (hi : (P.info? ty).map (·.size) = some cs.size) :
    (results fn tmps).run P w = .ok (.tuple #[.agg cs, tmps.getD u undef]) w := by
  rw [results_cell_tmp h, hp]
  simp [asAddr, Result.andThen, run_loadVar_row w g t ty cs fr d hg hu hd hi]
/-- A policy whose slices have their shapes. -/
theorem It.shape {t : It} {w : World} (h : t.ok w) : ∃ p1 p2 p3 p4 p5 c1 c2 c3 c4 c5, t.v1 = .slice p1 t.l1.length c1 ∧ t.v2 = .slice p2 t.l2.length c2 ∧ t.v3 = .slice p3 t.l3.length c3 ∧ t.v4 = .slice p4 t.l4.length c4 ∧ t.v5 = .slice p5 t.l5.length c5 := by
  obtain ⟨p1, c1, e1, -, -⟩ := h.s1
  obtain ⟨p2, c2, e2, -, -⟩ := h.s2
  obtain ⟨p3, c3, e3, -, -⟩ := h.s3
  obtain ⟨p4, c4, e4, -, -⟩ := h.s4
  obtain ⟨p5, c5, e5, -, -⟩ := h.s5
  exact ⟨p1, p2, p3, p4, p5, c1, c2, c3, c4, c5, e1, e2, e3, e4, e5⟩
theorem It.one {t : It} {w : World} (h : t.ok w) : (#[.int .i64 t.p.ep, t.v1, t.v2, t.v3, t.v4, t.v5, .int .i64 t.p.dp, .int .i64 t.p.nd, .int .i64 t.p.bt] : Array Value).all (·.oneCell') = true := by
  obtain ⟨p1, p2, p3, p4, p5, c1, c2, c3, c4, c5, e1, e2, e3, e4, e5⟩ := It.shape h
  rw [e1, e2, e3, e4, e5]
  simp [Value.oneCell']
/-- Rows that lie in blocks from B on stay where a block below is written. -/
theorem It.new.setRow {B : Nat} {w : World} {t : It} (hk : t.ok w) (h : t.new B w) {g : Nat} (ha : g < B) (cs : Array Value) : t.ok (w.setRow g cs) :=
  ⟨(h.r1.setRow ha cs).1, (h.r2.setRow ha cs).1, (h.r3.setRow ha cs).1, (h.r4.setRow ha cs).1, (h.r5.setRow ha cs).1, hk.e1, hk.e2, hk.e3, hk.e4, hk.e5, trivial⟩

set_option maxRecDepth 100000 in
set_option maxHeartbeats 16000000 in
theorem at_any : AtC := by
  intro v ts ep w hf hl hv
  have HV := hide hv
  obtain ⟨p, cap, rfl, hcap, -, -⟩ := hv
  obtain ⟨N, hN⟩ : ∃ N, N = ts.length := ⟨_, rfl⟩
  have HC : Hid (∀ i, i < N → ∃ (t : It) (b off : Nat), ts[i]? = some t ∧ p = some ⟨b, off, none⟩ ∧ ∀ wx, Below w.heap.size w wx → (wx.rangeAt b (off + i * 9) t.cells ∧ Calls Try.prog 21 #[t.val] wx fun e w' => (∃ t' : It, e = .returned t'.val ∧ t'.p = t.p ∧ t'.ok w' ∧ t'.new wx.heap.size w') ∧ Below wx.heap.size wx w')) := hide (fun i hi => by
    rw [hN] at hi
    have ht := List.getElem?_eq_getElem hi
    obtain ⟨b, off, cp, e, -, hr, hk⟩ := HV.out.at ht
    injection e with e
    exact ⟨ts[i], b, off, ht, e, fun wx h => ⟨range_keep (hr _ _ ht) h, own_any ts[i] wx ((hk _ _ ht).below h) (hf _ (List.getElem_mem hi))⟩⟩)
  have HN := hide hN
  obtain ⟨w1, hw1⟩ : ∃ w1, w1 = w.alloc (.cells zeroP 30) := ⟨_, rfl⟩
  have H1 : Hid (BoxP w zeroP w1) := hide (by rw [hw1]; exact ⟨new_block _ _ _, bel_alloc (Below.refl _ _) _⟩)
  rw [← hN] at hl ⊢
  clear hN HV hcap hf
  go_enter Try.func14, Try.ntmps14
  go_upto_region 1 with fail
  rw [← hw1]
  clear hw1
  go_wp2_with fail
  go_loopg [9] N (fun g v9 wx => ∃ i : Nat, i + g = N ∧ v9 = .int .i64 (i : Int) ∧ Hid (BoxP w zeroP wx ∧ ∀ (j : Nat) (x : It), j < i → ts[j]? = some x → x.p.ep ≠ ep))
  case atStart => exact ⟨0, by omega, rfl, hide ⟨H1.out, fun j x hj => by omega⟩⟩
  case round =>
    obtain ⟨i, hi, rfl, HU⟩ := hrel
    clear H1
    by_cases hlt : i < N
    · obtain ⟨t, b, off, ht, rfl, hc⟩ := HC.out i hlt
      obtain ⟨hr, hc⟩ := hc _ HU.out.1.2
      have C1 := hide hc
      have HT := hide ht
      obtain ⟨y0, y1, y2, y3, y4, y5, y6, y7, y8⟩ := nine hr
      obtain ⟨P, v1, v2, v3, v4, v5, l1, l2, l3, l4, l5⟩ := t
      simp only [] at y0 y1 y2 y3 y4 y5 y6 y7 y8
      clear hc ht HC hr
      by_cases he : P.ep = ep
      · have heq : (P.ep == ep) = true := by simpa using he
        have HEQ := hide he
        clear he
        go_wp2_with fail
        rename_i kk
        refine C1.out.mono ?_
        rintro e w2 ⟨⟨t', rfl, hp, hok, hnew⟩, h2⟩
        refine kk _ _ ?_
        have H2 := hide (HU.out.1.keep h2)
        have HFI := hide HU.out.2
        have hgl : w.heap.size < wr.heap.size := (Array.getElem?_eq_some_iff.1 HU.out.1.1).1
        have h1 := It.one hok
        clear kk h2 y0 y1 y2 y3 y4 y5 y6 y7 y8 C1 HU
        refine wpList_store_row rfl 30 _ _ rfl w.heap.size #[.int .i64 t'.p.ep, t'.v1, t'.v2, t'.v3, t'.v4, t'.v5, .int .i64 t'.p.dp, .int .i64 t'.p.nd, .int .i64 t'.p.bt] rfl rfl 30 _ H2.out.1 (by kernel_rfl) rfl h1 ?_
        obtain ⟨w3, hw⟩ : ∃ w3, w3 = w2.setRow w.heap.size #[.int .i64 t'.p.ep, t'.v1, t'.v2, t'.v3, t'.v4, t'.v5, .int .i64 t'.p.dp, .int .i64 t'.p.nd, .int .i64 t'.p.bt] := ⟨_, rfl⟩
        have K3 : Hid (w3.heap[w.heap.size]? = some (.cells #[.int .i64 t'.p.ep, t'.v1, t'.v2, t'.v3, t'.v4, t'.v5, .int .i64 t'.p.dp, .int .i64 t'.p.nd, .int .i64 t'.p.bt] 30 (0, 0))) := hide (by rw [hw]; exact setRow_heap _ _ _ _ _ _ H2.out.1)
        have B3 : Hid (Below w.heap.size w w3) := hide (by rw [hw]; exact below_row H2.out.2 (Nat.le_refl _) _)
        have HO : Hid (t'.ok w3) := hide (by rw [hw]; exact hnew.setRow hok hgl _)
        have HP := hide hp
        rw [← hw]
        clear hw H2 hok hnew hp hgl h1
        go_wp2_with fail
        refine bodyPost_ret (results_row_tmp rfl _ _ w.heap.size 30 #[.int .i64 t'.p.ep, t'.v1, t'.v2, t'.v3, t'.v4, t'.v5, .int .i64 t'.p.dp, .int .i64 t'.p.nd, .int .i64 t'.p.bt] (0, 0) _ rfl K3.out Try.underlying30 rfl (by kernel_rfl)) rfl ?_
        exact ⟨.inl ⟨i, _, t', HT.out, HEQ.out, HFI.out, rfl, HP.out, HO.out⟩, B3.out⟩
      · have heq : (P.ep == ep) = false := by simpa using he
        have HNE := hide he
        clear C1 he
        go_wp2_with fail
        go_roundg (N - i - 1)
        case measure => omega
        case rel => exact ⟨i + 1, by omega, by first | rfl | simp, hide ⟨HU.out.1, fun j x hj hjx => by
          by_cases e : j = i
          · subst e
            rw [HT.out] at hjx
            cases hjx
            exact HNE.out
          · exact HU.out.2 j x (by omega) hjx⟩⟩
    · have HK : Hid (∀ t ∈ ts, t.p.ep ≠ ep) := hide (fun t ht => by
        obtain ⟨j, hj⟩ := List.getElem?_of_mem ht
        have hl := (List.getElem?_eq_some_iff.1 hj).1
        exact HU.out.2 j t (by have := HN.out; omega) hj)
      have HB := hide HU.out.1
      clear HC HU
      go_upto_region 7 with fail
      go_step
      go_step
      rename_i kk
      go_simp
      refine kk _ _ ?_
      clear kk
      refine wpList_store_row rfl 30 _ _ rfl w.heap.size zeroP rfl rfl 30 _ HB.out.1 (by kernel_rfl) rfl (by simp [Value.oneCell']) ?_
      obtain ⟨w3, hw⟩ : ∃ w3, w3 = wr.setRow w.heap.size zeroP := ⟨_, rfl⟩
      have K3 : Hid (w3.heap[w.heap.size]? = some (.cells zeroP 30 (0, 0))) := hide (by rw [hw]; exact setRow_heap _ _ _ _ _ _ HB.out.1)
      have B3 : Hid (Below w.heap.size w w3) := hide (by rw [hw]; exact below_row HB.out.2 (Nat.le_refl _) _)
      rw [← hw]
      clear hw HB
      go_wp2_with fail
      refine bodyPost_ret (results_row_tmp rfl _ _ w.heap.size 30 zeroP (0, 0) _ rfl K3.out Try.underlying30 rfl (by kernel_rfl)) rfl ?_
      exact ⟨.inr ⟨HK.out, rfl⟩, B3.out⟩
end Go.Proofs.Ytlabdbkmlkmnkaa
