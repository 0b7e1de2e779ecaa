/-
  The law DomText, walked: it answers true at every tokens.
-/
import Derived.Test.YtkdppcpkigpmdaaH5
import Derived.Test.YtkdppcpkigpmdaaOTok
namespace Go.Proofs.Ytkdppcpkigpmdaa
open Go.RowKit
open Utf1

/-- Tokens that came in. -/
def TokArg (w : World) (v : Value) (l : List Te) : Prop := TokRow w v l ∧ l.length ≤ maxLen ∧ ∀ e ∈ l, AttrRow w e.2.1.1 e.2.1.2.1 e.1.attrs ∧ e.1.name.length ≤ maxLen ∧ e.1.text.length ≤ maxLen ∧ e.2.1.2.1 ≤ maxLen
theorem AttrRow.below {w w' : World} {p : Option Addr} {m : Nat} {at' : List (List UInt8 × List UInt8)} (h : AttrRow w p m at') (hb : Below w.heap.size w w') : AttrRow w' p m at' := by
  refine ⟨h.1, ?_⟩
  intro i kv hi
  obtain ⟨b, off, hp, x0, x1, h2⟩ := h.2 i kv hi
  exact ⟨b, off, hp, cell_keep x0 hb, cell_keep x1 hb, h2⟩
theorem TokArg.below {w w' : World} {v : Value} {l : List Te} (h : TokArg w v l) (hb : Below w.heap.size w w') : TokArg w' v l :=
  ⟨tokrow_below h.1 hb, h.2.1, fun e he => ⟨(h.2.2 e he).1.below hb, (h.2.2 e he).2⟩⟩
theorem light_arg {w : World} {v : Value} {l : List Te} (h : TokArg w v l) : Calls Try.prog 9 #[v] w fun e w' => e = .returned (.bool (decide (tokWs l < 6000))) ∧ Below w.heap.size w w' := light_st w v l h.1 (fun e he => (h.2.2 e he).2) h.2.1
theorem named_arg {w : World} {v : Value} {l : List Te} (h : TokArg w v l) : Calls Try.prog 10 #[v] w fun e w' => ∃ b : Bool, e = .returned (.bool b) ∧ (b = true → ∀ e ∈ l, e.1.kind = 2 → e.1.name ≠ []) ∧ w' = w := named_st w v l h.1 h.2.1
theorem build_arg {w : World} {v : Value} {l : List Te} (h : TokArg w v l) (hw : tokWs l < 6000) : Calls Try.prog 11 #[v] w fun e w' => ∃ r, e = .returned (.tuple #[r, .int .i64 (if (buildB (l.map Prod.fst)).isSome then 0 else 5)]) ∧ (∃ fp, KAt w' w.heap.size r ((buildB (l.map Prod.fst)).getD []) fp) ∧ Below w.heap.size w w' := by
  obtain ⟨f1, f2, f3⟩ := light_facts l hw
  refine (build_st w v l h.1 (by omega) (by omega) (fun e he => by have := (f3 e he).1; omega) ?_).mono ?_
  · intro e he
    exact clones_any w _ _ _ _ (h.2.2 e he).1 (by have := (f3 e he).2; omega)
  · rintro e w' ⟨r, err, rfl, hE, hb⟩
    obtain ⟨fp, hk, rfl⟩ := hE.got
    exact ⟨r, rfl, ⟨fp, hk⟩, hb⟩
theorem bl_back (b : ByteArray) : (⟨(bl b).toArray⟩ : ByteArray) = b := by cases b; simp [bl]

set_option maxRecDepth 100000 in
set_option maxHeartbeats 8000000 in
theorem lawText_walk (v : Value) (l : List Te) (w : World) (hl : TokArg w v l) :
    Calls Try.prog 6 #[v] w fun e w' => e = .returned (.bool true) ∧ Below w.heap.size w w' := by
  obtain ⟨p, c, rfl, -⟩ := id hl.1
  have HL := hide hl
  have hNm : l.length ≤ 9223372036854775807 := hl.2.1
  obtain ⟨N, hN⟩ : ∃ N, N = l.length := ⟨_, rfl⟩
  rw [← hN] at hNm HL ⊢
  have HN := hide hN
  clear hl hN
  go_enter Try.func6, Try.ntmps6
  go_wp2_with fail
  refine (awake_st _).mono ?_
  rintro e w1 ⟨rfl, hb1⟩
  have HL1 := hide (HL.out.below hb1)
  have HB1 := hide hb1
  clear hb1 HL
  go_wp2_with fail
  refine (light_arg HL1.out).mono ?_
  rintro e w2 ⟨rfl, hb2⟩
  have HL2 := hide (HL1.out.below hb2)
  have HB2 := hide (HB1.out.trans (hb2.mono HB1.out.size))
  clear hb2 HL1 HB1
  by_cases hw : tokWs l < 6000
  case neg =>
    rw [decide_eq_false hw]
    go_wp2_with fail
    refine (named_arg HL2.out).mono ?_
    rintro e w3 ⟨b, rfl, -, rfl⟩
    go_wp2_with fail
    go_ret
    exact ⟨rfl, HB2.out⟩
  rw [decide_eq_true hw]
  go_wp2_with fail
  refine (named_arg HL2.out).mono ?_
  rintro e w3 ⟨b, rfl, -, rfl⟩
  cases b with
  | false =>
    go_wp2_with fail
    go_ret
    exact ⟨rfl, HB2.out⟩
  | true =>
    have HBU := hide (build_arg HL2.out hw)
    have HTX : Hid (∀ ns, buildB (l.map Prod.fst) = some ns → txtL ns = tksTxt (l.map Prod.fst)) := hide (fun ns h => build_txt h)
    have HCN := hide (build_cnt' (l.map Prod.fst))
    obtain ⟨f1, f2, f3⟩ := light_facts l hw
    have HTL : Hid ((tksTxt (l.map Prod.fst)).length < 6000) := hide (Nat.lt_of_le_of_lt (tks_len l) f2)
    have hN6 : N < 6000 := by rw [HN.out]; exact f1
    clear f1 f2 f3
    obtain ⟨bb, hbb⟩ : ∃ bb, bb = buildB (l.map Prod.fst) := ⟨_, rfl⟩
    rw [← hbb] at HBU HTX HCN
    clear hbb
    cases bb with
    | none =>
      have HBU : Hid (Calls Try.prog 11 #[.slice p N c] w3 fun e w' => ∃ r, e = .returned (.tuple #[r, .int .i64 5]) ∧ Below w3.heap.size w3 w') := hide (by
        refine HBU.out.mono ?_
        rintro e w' ⟨r, rfl, -, hb⟩
        exact ⟨r, rfl, hb⟩)
      go_wp2_with fail
      refine HBU.out.mono ?_
      rintro e w4 ⟨r, rfl, hb4⟩
      have HB4 := hide (HB2.out.trans (hb4.mono HB2.out.size))
      clear hb4
      go_wp2_with fail
      go_ret
      exact ⟨rfl, HB4.out⟩
    | some ns =>
      have HBU : Hid (Calls Try.prog 11 #[.slice p N c] w3 fun e w' => ∃ p2 m2 c2, e = .returned (.tuple #[.slice p2 m2 c2, .int .i64 0]) ∧ (∃ fp, KAt w' w3.heap.size (.slice p2 m2 c2) ns fp) ∧ Below w3.heap.size w3 w') := hide (by
        refine HBU.out.mono ?_
        rintro e w' ⟨r, rfl, ⟨fp, hk⟩, hb⟩
        obtain ⟨p2, c2, rfl, -⟩ := kat_node hk
        exact ⟨_, _, _, rfl, ⟨fp, hk⟩, hb⟩)
      go_wp2_with fail
      refine HBU.out.mono ?_
      rintro e w4 ⟨p2, m2, c2, rfl, hk, hb4⟩
      have HL4 := hide (HL2.out.below hb4)
      have HB4 := hide (HB2.out.trans (hb4.mono HB2.out.size))
      have HK := hide hk
      clear hb4 hk HBU HL2 HB2
      go_wp2_with fail
      go_loopg [8, 9] N (fun k v8 v9 wr => ∃ (i : Nat) (acc : ByteArray), i + k = N ∧ acc.size ≤ 6000 ∧ v8 = .string acc ∧ v9 = .int .i64 (i : Int) ∧ wr = w4 ∧ Hid (bl acc = tksTxt ((l.take i).map Prod.fst)))
      case atStart => exact ⟨0, ⟨#[]⟩, by omega, by decide, rfl, rfl, rfl, hide rfl⟩
      case round =>
        obtain ⟨i, acc, hik, hacc, rfl, rfl, rfl, HA⟩ := hrel
        by_cases hlt : i < N
        · have hd : decide ((i : Int) < (N : Int)) = true := decide_eq_true (by omega)
          have hlt' : i < l.length := by rw [← HN.out]; exact hlt
          have hge : l[i]? = some l[i] := List.getElem?_eq_getElem hlt'
          generalize l[i] = e at hge
          obtain ⟨p3, c3, e3, hcell⟩ := HL4.out.1
          injection e3 with e31 e32 e33
          subst e31
          obtain ⟨g, off, rfl, x0, x1, x2, x3, x4⟩ := hcell i e hge
          have htk : (l.take (i + 1)).map Prod.fst = (l.take i).map Prod.fst ++ [e.1] := by rw [List.take_add_one, hge, List.map_append]; rfl
          have hle : (tksTxt ((l.take (i + 1)).map Prod.fst)).length ≤ (tksTxt (l.map Prod.fst)).length := by
            have : l.map Prod.fst = (l.take (i + 1)).map Prod.fst ++ (l.drop (i + 1)).map Prod.fst := by rw [← List.map_append, List.take_append_drop]
            rw [this, tksTxt_app, List.length_append]
            omega
          obtain ⟨⟨kind, name, attrs, text⟩, ⟨ap, am, ac⟩, cl⟩ := e
          simp only [] at x0 x4 htk
          obtain ⟨XT, hXT⟩ : ∃ X : ByteArray, X = ⟨text.toArray⟩ := ⟨_, rfl⟩
          rw [← hXT] at x4
          have hbt : bl XT = text := by rw [hXT]
          by_cases hk1 : kind = 1
          · subst hk1
            have HA2 : Hid (bl (acc ++ XT) = tksTxt ((l.take (i + 1)).map Prod.fst)) := hide (by
              rw [htk, tksTxt_app, ← HA.out]
              show bl (acc ++ XT) = bl acc ++ (text ++ [])
              rw [List.append_nil, ← hbt]
              simp [bl])
            have hsz : (acc ++ XT).size ≤ 6000 := by
              have h1 := congrArg List.length HA2.out
              rw [bl_len] at h1
              have h2 := HTL.out
              omega
            have hsz2 : acc.size + XT.size ≤ 6000 := by simpa using hsz
            clear hge hXT hbt htk hle x1 x2 x3 HA hcell e32 e33
            go_wp2_with fail
            go_roundg (gk - 1)
            case measure => omega
            case rel => exact ⟨i + 1, acc ++ XT, by omega, hsz, rfl, by first | rfl | simp, rfl, HA2⟩
          · have hkf : (kind == 1) = false := beq_eq_false_iff_ne.2 hk1
            have HA2 : Hid (bl acc = tksTxt ((l.take (i + 1)).map Prod.fst)) := hide (by
              rw [htk, tksTxt_app, ← HA.out]
              show bl acc = bl acc ++ (tkTxt ⟨kind, name, attrs, text⟩ ++ [])
              unfold tkTxt
              rw [if_neg hk1]
              simp)
            clear hge hXT hbt htk hle x1 x2 x3 HA hcell e32 e33
            go_wp2_with fail
            go_roundg (gk - 1)
            case measure => omega
            case rel => exact ⟨i + 1, acc, by omega, hacc, rfl, by first | rfl | simp, rfl, HA2⟩
        · have hd : decide ((i : Int) < (N : Int)) = false := decide_eq_false (by omega)
          have e : i = N := by omega
          subst e
          have htx := HTX.out ns rfl
          have HT : Hid (Calls Try.prog 20 #[.slice p2 m2 c2] wr fun e w' => e = .returned (.string acc) ∧ Below wr.heap.size wr w') := hide (by
            obtain ⟨fp, hk⟩ := HK.out
            refine (text_st wr _ _ ns fp hk (by have h1 : cntL ns ≤ 2000 := HCN.out; omega) (by rw [htx]; have := HTL.out; omega)).mono ?_
            rintro e w' ⟨rfl, hb⟩
            refine ⟨?_, hb⟩
            have ha := HA.out
            rw [List.take_of_length_le (by rw [HN.out]; exact Nat.le_refl _)] at ha
            rw [htx, ← ha, bl_back])
          clear htx HA
          go_wp2_with fail
          refine HT.out.mono ?_
          rintro e w5 ⟨rfl, hb5⟩
          have HB5 := hide (HB4.out.trans (hb5.mono HB4.out.size))
          clear hb5 HT HB4
          go_wp2_with fail
          go_ret
          exact ⟨rfl, HB5.out⟩
end Go.Proofs.Ytkdppcpkigpmdaa
