/-
  The law DomNested, walked: it answers true at every number and text.
-/
import Derived.Test.YtkdppcpkigpmdabH3
namespace Go.Proofs.Ytkdppcpkigpmdab
open Go.RowKit
open Utf1

theorem bl_back (b : ByteArray) : (⟨(bl b).toArray⟩ : ByteArray) = b := by cases b; simp [bl]
theorem tok_ones (l : List Te) {A : Array Value} (hA : (tokCells l).toArray = A) : ∀ u ∈ A.toList, u.oneCell' = true := by
  subst hA
  induction l with
  | nil => intro u hu; cases hu
  | cons e l ih =>
    intro u hu
    have hu : u ∈ tokCells1 e ++ tokCells l := hu
    rcases List.mem_append.1 hu with h | h
    · exact tok_one e u h
    · exact ih u h

set_option maxRecDepth 100000 in
set_option maxHeartbeats 8000000 in
theorem lawNested_walk (n : Int) (text : ByteArray) (w : World) (_h1 : (Lit.int .i64 n).wf = true) (hs : text.size ≤ maxLen) :
    Calls Try.prog 3 #[.int .i64 n, .string text] w fun e w' => e = .returned (.bool true) ∧ Below w.heap.size w w' := by
  clear _h1
  unfold maxLen at hs
  by_cases a1 : n < 1
  · have d1 : decide (n < 1) = true := decide_eq_true a1
    go_enter Try.func3, Try.ntmps3
    go_wp2_with fail
    refine (awake_st _).mono ?_
    rintro e w1 ⟨rfl, hb1⟩
    go_wp2_with fail
    go_ret
    exact ⟨rfl, hb1⟩
  have d1 : decide (n < 1) = false := decide_eq_false a1
  by_cases a2 : 60 < n
  · have d2 : decide (60 < n) = true := decide_eq_true a2
    go_enter Try.func3, Try.ntmps3
    go_wp2_with fail
    refine (awake_st _).mono ?_
    rintro e w1 ⟨rfl, hb1⟩
    go_wp2_with fail
    go_ret
    exact ⟨rfl, hb1⟩
  have d2 : decide (60 < n) = false := decide_eq_false a2
  have f0 := eqlit text []
  by_cases a3 : bl text = []
  · rw [decide_eq_true a3] at f0
    have f1 : text.toList.isEmpty = true := by
      cases hh : text.toList with
      | nil => rfl
      | cons => rw [hh] at f0; cases f0
    go_enter Try.func3, Try.ntmps3
    go_wp2_with fail
    refine (awake_st _).mono ?_
    rintro e w1 ⟨rfl, hb1⟩
    go_wp2_with fail
    go_ret
    exact ⟨rfl, hb1⟩
  rw [decide_eq_false a3] at f0
  have f1 : text.toList.isEmpty = false := by
    cases hh : text.toList with
    | nil => rw [hh] at f0; cases f0
    | cons => rfl
  by_cases a4 : 1000 < text.size
  · have d4 : decide ((1000 : Int) < (text.size : Int)) = true := decide_eq_true (by omega)
    go_enter Try.func3, Try.ntmps3
    go_wp2_with fail
    refine (awake_st _).mono ?_
    rintro e w1 ⟨rfl, hb1⟩
    go_wp2_with fail
    go_ret
    exact ⟨rfl, hb1⟩
  have d4 : decide ((1000 : Int) < (text.size : Int)) = false := decide_eq_false (by omega)
  obtain ⟨D, rfl⟩ : ∃ D : Nat, n = ((D + 1 : Nat) : Int) := ⟨(n - 1).toNat, by omega⟩
  have hD : D < 60 := by omega
  obtain ⟨i0, hi, hz0, hz1, hz2⟩ := info_parts infoTok
  obtain ⟨N, hN⟩ : ∃ N, N = D + 1 := ⟨_, rfl⟩
  rw [← hN] at d1 d2 a1 a2 ⊢
  have HN := hide hN
  have hN60 : N ≤ 60 := by omega
  have hN1 : 1 ≤ N := by omega
  clear hN
  go_enter Try.func3, Try.ntmps3
  go_wp2_with fail
  refine (awake_st _).mono ?_
  rintro e w1 ⟨rfl, hb1⟩
  have HB1 := hide hb1
  clear hb1
  go_wp2_with fail
  go_loopg [6, 7] N (fun k v6 v7 wr => ∃ i : Nat, i + k = N ∧ v7 = .int .i64 (i : Int) ∧ (∃ p m c, v6 = .slice p m c) ∧ Hid (wr.ownsRow w1.heap.size 27 5 v6 i (tokCells ((List.range i).map eN))) ∧ Hid (Below w1.heap.size w1 wr))
  case atStart => exact ⟨0, by omega, rfl, ⟨_, _, _, rfl⟩, hide (World.ownsRow_nil _ _ _ _), hide (Below.refl _ _)⟩
  case round =>
    obtain ⟨i, hik, rfl, ⟨p, m, c, rfl⟩, HO, HB⟩ := hrel
    by_cases hlt : i < N
    · have hd : decide ((i : Int) < (N : Int)) = true := decide_eq_true (by omega)
      have hbz : w1.heap.size ≤ wr.heap.size := HB.out.size
      have hcv : ∀ ty, (Sem.run Try.prog (convert 24 9 (.slice (some ⟨wr.heap.size, 0, none⟩) 3 3)) (wr.alloc (.cells #[.int .u8 (97 + (i : Int) % 2), .int .u8 (48 + (i : Int) / 10), .int .u8 (48 + (i : Int) % 10)] ty))) = .ok (.string ⟨(nmN i).toArray⟩) (wr.alloc (.cells #[.int .u8 (97 + (i : Int) % 2), .int .u8 (48 + (i : Int) / 10), .int .u8 (48 + (i : Int) % 10)] ty)) := by
        intro ty
        refine run_convert_bytes_back _ 24 9 5 ⟨wr.heap.size, 0, none⟩ 3 (nmN i) Try.underlying24 Try.underlying5 Try.underlying9 ?_
        intro j hj
        have hj : j < 3 := hj
        have e1 : ((UInt8.ofNat (97 + i % 2)).toNat : Int) = 97 + (i : Int) % 2 := by
          rw [UInt8.toNat_ofNat']
          omega
        have e2 : ((UInt8.ofNat (48 + i / 10)).toNat : Int) = 48 + (i : Int) / 10 := by
          rw [UInt8.toNat_ofNat']
          omega
        have e3 : ((UInt8.ofNat (48 + i % 10)).toNat : Int) = 48 + (i : Int) % 10 := by
          rw [UInt8.toNat_ofNat']
          omega
        match j, hj with
        | 0, _ =>
          show (wr.alloc _).cell? ⟨wr.heap.size, 0, none⟩ = some (.int .u8 ((UInt8.ofNat (97 + i % 2)).toNat : Int))
          rw [new_cell, e1]
          rfl
        | 1, _ =>
          show (wr.alloc _).cell? ⟨wr.heap.size, 1, none⟩ = some (.int .u8 ((UInt8.ofNat (48 + i / 10)).toNat : Int))
          rw [new_cell, e2]
          rfl
        | 2, _ =>
          show (wr.alloc _).cell? ⟨wr.heap.size, 2, none⟩ = some (.int .u8 ((UInt8.ofNat (48 + i % 10)).toNat : Int))
          rw [new_cell, e3]
          rfl
      have hb2 : Below wr.heap.size wr (wr.alloc (.cells #[.int .u8 (97 + (i : Int) % 2), .int .u8 (48 + (i : Int) / 10), .int .u8 (48 + (i : Int) % 10)] 5)) := (Below.refl _ _).alloc (Nat.le_refl _) _
      have hsz2 : (wr.alloc (.cells #[.int .u8 (97 + (i : Int) % 2), .int .u8 (48 + (i : Int) / 10), .int .u8 (48 + (i : Int) % 10)] 5)).heap.size = wr.heap.size + 1 := by simp
      have hbz2 : w1.heap.size ≤ (wr.alloc (.cells #[.int .u8 (97 + (i : Int) % 2), .int .u8 (48 + (i : Int) / 10), .int .u8 (48 + (i : Int) % 10)] 5)).heap.size := Nat.le_trans hbz hb2.size
      have hal : Below (wr.alloc (.cells #[.int .u8 (97 + (i : Int) % 2), .int .u8 (48 + (i : Int) / 10), .int .u8 (48 + (i : Int) % 10)] 5)).heap.size (wr.alloc (.cells #[.int .u8 (97 + (i : Int) % 2), .int .u8 (48 + (i : Int) / 10), .int .u8 (48 + (i : Int) % 10)] 5)) ((wr.alloc (.cells #[.int .u8 (97 + (i : Int) % 2), .int .u8 (48 + (i : Int) / 10), .int .u8 (48 + (i : Int) % 10)] 5)).alloc (.cells #[.int .i64 2, .string ⟨(nmN i).toArray⟩, .slice none 0 0, .bool false, .string ⟨#[]⟩] 27)) := (Below.refl _ _).alloc (Nat.le_refl _) _
      have HO2 := hide (own_below (own_below HO.out hb2) hal)
      have HB2 := hide ((HB.out.trans (hb2.mono hbz)).alloc hbz2 (.cells #[.int .i64 2, .string ⟨(nmN i).toArray⟩, .slice none 0 0, .bool false, .string ⟨#[]⟩] 27))
      have hnews := five_new (wr.alloc (.cells #[.int .u8 (97 + (i : Int) % 2), .int .u8 (48 + (i : Int) / 10), .int .u8 (48 + (i : Int) % 10)] 5)) #[.int .i64 2, .string ⟨(nmN i).toArray⟩, .slice none 0 0, .bool false, .string ⟨#[]⟩] 27
      rw [hsz2] at hnews
      have HNEWS := hide hnews
      clear hal hb2 hnews hsz2 hbz2
      go_wp2_with (at_builtin; refine wpList_append_own _ rfl _ _ 23 rfl w1.heap.size 27 i0 _ 5 72 Try.underlying23 hi hz0 hz1 hz2 rfl (by decide) (.slice p m c) i (tokCells ((List.range i).map eN)) rfl HO2.out ⟨wr.heap.size + 1, 0, none⟩ 1 1 (tokCells1 (eN i)) rfl rfl HNEWS.out (tok_one _) (by unfold maxLen; omega) (by omega) (by simp; omega) ?_)
      intro v' w5 hown5 hgr5 _
      obtain ⟨bp, bm, bc, rfl⟩ := own_slice hown5
      have HO5 : Hid (w5.ownsRow w1.heap.size 27 5 (.slice bp bm bc) (i + 1) (tokCells ((List.range (i + 1)).map eN))) := hide (by
        rw [List.range_succ, List.map_append, tokCells_app]
        exact hown5)
      have HB5 := hide (HB2.out.grown hgr5 (by simp; omega) (fun j hj => (HO2.out.lt j hj).1))
      clear hown5 hgr5 HO2 HB2 HO HB
      go_wp2_with fail
      go_roundg (gk - 1)
      case measure => omega
      case rel => exact ⟨i + 1, by omega, by first | rfl | simp, ⟨_, _, _, rfl⟩, HO5, HB5⟩
    · have hd : decide ((i : Int) < (N : Int)) = false := decide_eq_false (by omega)
      have e : i = N := by omega
      subst e
      have hrow : TokRow wr (.slice p m c) ((List.range i).map eN) := tok_own (by simpa using HO.out)
      obtain ⟨p', c', ev, hcell⟩ := hrow
      cases ev
      obtain ⟨g, rfl, -, x1, -⟩ := hcell 0 (eN 0) (by rw [List.getElem?_map, List.getElem?_range (by omega)]; rfl)
      have x1 : wr.cell? ⟨g, 1, none⟩ = some (.string ⟨(nmN 0).toArray⟩) := x1
      have hml : ((List.range i).map eN).length = i := by simp
      rw [hml] at HO ⊢
      have hbz : w1.heap.size ≤ wr.heap.size := HB.out.size
      have hal : Below wr.heap.size wr (wr.alloc (.cells (tokCells [eX (bl text), eE (nmN 0), eX (bl text)]).toArray 27)) := (Below.refl _ _).alloc (Nat.le_refl _) _
      have HO2 := hide (own_below HO.out hal)
      have HB2 := hide (HB.out.alloc hbz (.cells (tokCells [eX (bl text), eE (nmN 0), eX (bl text)]).toArray 27))
      have hA : (tokCells [eX (bl text), eE (nmN 0), eX (bl text)]).toArray = #[.int .i64 1, .string ⟨#[]⟩, .slice none 0 0, .bool false, .string text, .int .i64 3, .string ⟨(nmN 0).toArray⟩, .slice none 0 0, .bool false, .string ⟨#[]⟩, .int .i64 1, .string ⟨#[]⟩, .slice none 0 0, .bool false, .string text] := by
        show #[Value.int .i64 1, .string ⟨#[]⟩, .slice none 0 0, .bool false, .string ⟨(bl text).toArray⟩, .int .i64 3, .string ⟨(nmN 0).toArray⟩, .slice none 0 0, .bool false, .string ⟨#[]⟩, .int .i64 1, .string ⟨#[]⟩, .slice none 0 0, .bool false, .string ⟨(bl text).toArray⟩] = _
        rw [bl_back]
      rw [hA] at HO2 HB2
      clear hcell hal hml
      have hnews := five_new wr #[.int .i64 1, .string ⟨#[]⟩, .slice none 0 0, .bool false, .string text, .int .i64 3, .string ⟨(nmN 0).toArray⟩, .slice none 0 0, .bool false, .string ⟨#[]⟩, .int .i64 1, .string ⟨#[]⟩, .slice none 0 0, .bool false, .string text] 27
      rw [← hA] at hnews
      have HNEWS := hide hnews
      clear hnews
      rw [hA] at HNEWS
      have HA := hide hA
      clear hA
      go_wp2_with (at_builtin; refine wpList_append_own _ rfl _ _ 23 rfl w1.heap.size 27 i0 _ 5 72 Try.underlying23 hi hz0 hz1 hz2 rfl (by decide) (.slice (some ⟨g, 0, none⟩) i c) i (tokCells ((List.range i).map eN)) rfl HO2.out ⟨wr.heap.size, 0, none⟩ 3 3 [.int .i64 1, .string ⟨#[]⟩, .slice none 0 0, .bool false, .string text, .int .i64 3, .string ⟨(nmN 0).toArray⟩, .slice none 0 0, .bool false, .string ⟨#[]⟩, .int .i64 1, .string ⟨#[]⟩, .slice none 0 0, .bool false, .string text] rfl rfl HNEWS.out (tok_ones _ HA.out) (by unfold maxLen; omega) (by omega) (by simp; omega) ?_)
      intro v' w5 hown5 hgr5 _
      obtain ⟨bp, bm, bc, rfl⟩ := own_slice hown5
      have hL : (toksN i (bl text)).length = i + 3 := by
        unfold toksN
        rw [List.length_append, List.length_map, List.length_range]
        rfl
      have hrow5 : TokRow w5 (.slice bp bm bc) (toksN i (bl text)) := tok_own (base := w1.heap.size) (by
        rw [hL]
        unfold toksN
        rw [tokCells_app]
        have e := congrArg Array.toList HA.out
        rw [List.toList_toArray] at e
        rw [e]
        exact hown5)
      have HB5 := hide (HB1.out.trans ((HB2.out.grown hgr5 (by simp; omega) (fun j hj => (HO2.out.lt j hj).1)).mono HB1.out.size))
      obtain ⟨Wn, m1, m2, m3, m4⟩ := build_N D hD (bl text) a3
      rw [← HN.out] at m1 m2 m3
      have hbl : (bl text).length = text.size := by rw [bl_len]
      have hsum : textSum (toksN i (bl text)) ≤ 100000000 := by
        unfold toksN
        rw [textSum_app]
        have h0 : ∀ k, textSum ((List.range k).map eN) = 0 := by
          intro k
          induction k with
          | zero => rfl
          | succ k ih =>
            rw [List.range_succ, List.map_append, textSum_app, ih]
            rfl
        rw [h0]
        show 0 + ((bl text).length + (0 + ((bl text).length + 0))) ≤ _
        omega
      have hnm : ∀ e ∈ toksN i (bl text), e.1.name.length ≤ 281474976710656 ∧ e.1.attrs = [] ∧ e.2.1 = (none, 0, 0) := by
        intro e he
        unfold toksN at he
        rcases List.mem_append.1 he with h | h
        · obtain ⟨k, _, rfl⟩ := List.mem_map.1 h
          exact ⟨by show 3 ≤ _; omega, rfl, rfl⟩
        · simp only [List.mem_cons, List.not_mem_nil, or_false] at h
          rcases h with rfl | rfl | rfl
          · exact ⟨by show 0 ≤ _; omega, rfl, rfl⟩
          · exact ⟨by show 3 ≤ _; omega, rfl, rfl⟩
          · exact ⟨by show 0 ≤ _; omega, rfl, rfl⟩
      have HBU : Hid (Calls Try.prog 6 #[.slice bp bm bc] w5 fun e w' => ∃ g c fp, e = .returned (.tuple #[.slice (some ⟨g, 0, none⟩) 2 c, .int .i64 0]) ∧ w'.cell? ⟨g, 6, none⟩ = some (.string text) ∧ KAt w' w5.heap.size (.slice (some ⟨g, 0, none⟩) 2 c) [Wn, .mk [] [] (bl text) []] fp ∧ Below w5.heap.size w5 w') := hide (by
        refine (build_plain w5 _ (toksN i (bl text)) hrow5 (by omega) hsum (fun e he => (hnm e he).1) (fun e he => (hnm e he).2)).mono ?_
        rintro e w' ⟨r, rfl, ⟨fp, hk⟩, hb⟩
        rw [m1] at hk ⊢
        have hk : KAt w' w5.heap.size r [Wn, .mk [] [] (bl text) []] fp := hk
        obtain ⟨p, c, rfl, hnode⟩ := kat_node hk
        obtain ⟨g, ap, am, ac, kp, km, kc, f, rfl, x0, x1, x2, x3, -⟩ := hnode 1 _ rfl
        refine ⟨g, c, fp, rfl, ?_, hk, hb⟩
        have hx2 : w'.cell? ⟨g, 6, none⟩ = some (.string ⟨(bl text).toArray⟩) := x2
        rw [bl_back] at hx2
        exact hx2)
      have hcn : cntL [Wn, .mk [] [] (bl text) []] ≤ 1000 := by omega
      have htl : (txtL [Wn, .mk [] [] (bl text) []]).length ≤ 1000000000 := by
        rw [m4, List.length_append]
        omega
      have hTT : (⟨(bl text ++ bl text).toArray⟩ : ByteArray) = text ++ text := by
        cases text
        simp [bl]
        rfl
      clear hown5 hgr5 HO2 HB2 HO HB HNEWS HA hrow5 hsum hnm m1 hL HB1
      go_wp2_with fail
      refine HBU.out.mono ?_
      rintro e w6 ⟨g6, c6, fp, rfl, y2, hk, hb6⟩
      have HS := hide (size_st w6 _ _ w6 _ _ fp (Nat.le_refl _) (by omega) hk (Below.refl _ _))
      rw [m2, m3] at HS
      have HT := hide (fun wx (hx : Below w6.heap.size w6 wx) => text_st wx _ _ _ fp (hk.under hx) (by omega) htl)
      rw [m4, hTT] at HT
      have HB6 := hide (HB5.out.trans (hb6.mono HB5.out.size))
      clear hk hb6 HBU HB5 m2 m3 m4 hcn htl hTT hbl x1
      go_wp2_with fail
      refine HS.out.mono ?_
      rintro e w7 ⟨rfl, hb7⟩
      have HT7 := hide (HT.out w7 hb7)
      have HB7 := hide (HB6.out.trans (hb7.mono HB6.out.size))
      clear hb7 HS HT HB6
      go_wp2_with fail
      refine HT7.out.mono ?_
      rintro e w8 ⟨rfl, hb8⟩
      have HB8 := hide (HB7.out.trans (hb8.mono HB7.out.size))
      clear hb8 HT7 HB7
      go_wp2_with fail
      go_ret
      exact ⟨rfl, HB8.out⟩
end Go.Proofs.Ytkdppcpkigpmdab
