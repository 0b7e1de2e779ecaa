/-
  style.eachPart over style.Filter's closure.
-/
import Derived.Test.YtnjbeehfnahdfaaDoorY4
import Derived.Deep.LoopGhost
namespace Go.Proofs.YtnjbeehfnahdfaaDoor
open Go.RowKit Go.WideMaps
open Utf1 Sty

def tellV (Hb : Nat) : Value := .func (.func 16) #[] #[.pointer (some ⟨Hb, 0, none⟩), .pointer (some ⟨Hb + 1, 0, none⟩), .pointer (some ⟨Hb + 3, 0, none⟩)]

theorem stay_semi (props : List L) (p r : L) (h : (59 : UInt8) ∉ p) : stay props (p ++ 59 :: r) = (pp p).toList.filter (keep props) ++ stay props r := by
  unfold stay prts
  rw [segs_semi p r h]
  cases hp : pp p with
  | none => rw [List.filterMap_cons_none hp]; simp
  | some x => rw [List.filterMap_cons_some hp, List.filter_cons]; simp [List.filter_cons]; split <;> simp
theorem stay_end (props : List L) (p : L) (h : (59 : UInt8) ∉ p) : stay props p = (pp p).toList.filter (keep props) := by
  unfold stay prts
  rw [segs_end p h]
  cases hp : pp p with
  | none => rw [List.filterMap_cons_none hp]; simp
  | some x => rw [List.filterMap_cons_some hp]; simp
theorem pp_none (p : L) (h : (58 : UInt8) ∉ p) : (pp p).toList = [] := by
  unfold pp
  rw [part_none p h]
  rfl
theorem pp_some (a b : L) (h : (58 : UInt8) ∉ a) : (pp (a ++ 58 :: b)).toList = [(pl a, pl b)] := by
  unfold pp
  rw [part_some a b h]
  rfl
theorem filter_len (f : NV → Bool) (x : NV) : ([x].filter f).length ≤ 1 := by
  rw [List.filter_cons]
  split <;> simp

/-- One part, told: what is asked of the call behind the two plain ones. -/
theorem part_told (Hb : Nat) (v : Value) (ss : List ByteArray) (st : List NV) (A B : ByteArray) (w0 w : World) (h0 : w0.heap.size = Hb) (hi : Inv Hb v st w) (hv : StrArg w0 v ss) (hb : Below Hb w0 w) (hA : A.size ≤ 100000) (hB : B.size ≤ 100000) (hst : st.length ≤ 100000) (hl : ss.length ≤ 100000) :
    Calls Tryd.prog 16 #[.string ⟨(pl (bl A)).toArray⟩, .string ⟨(pl (bl B)).toArray⟩, .pointer (some ⟨Hb, 0, none⟩), .pointer (some ⟨Hb + 1, 0, none⟩), .pointer (some ⟨Hb + 3, 0, none⟩)] w fun e w' => e = .returned (.tuple #[]) ∧ Inv Hb v (st ++ [(pl (bl A), pl (bl B))].filter (keep (ss.map bl))) w' ∧ Below Hb w w' := by
  have h1 := pl_len (bl A)
  have h2 := pl_len (bl B)
  rw [bl_len] at h1 h2
  exact tell_any Hb v ss st ⟨(pl (bl A)).toArray⟩ ⟨(pl (bl B)).toArray⟩ w hi (hv.below (by rw [h0]; exact hb)) (by rw [size_mk]; omega) (by rw [size_mk]; omega) hst hl

set_option maxRecDepth 100000 in
set_option maxHeartbeats 8000000 in
theorem each_any (Hb : Nat) (v : Value) (ss : List ByteArray) (s : ByteArray) (w0 w : World) (h0 : w0.heap.size = Hb) (hi : Inv Hb v [] w) (hv : StrArg w0 v ss) (hb : Below Hb w0 w) (hs : s.size ≤ 90000) (hl : ss.length ≤ 100000) :
    Calls Tryd.prog 15 #[.string s, tellV Hb] w fun e w' => e = .returned (.tuple #[]) ∧ Inv Hb v (stay (ss.map bl) (bl s)) w' ∧ Below Hb w w' := by
  unfold tellV
  have HV := hide hv
  have HB := hide hb
  have HI := hide hi
  clear hv hb hi
  go_enter Tryd.func15, Tryd.ntmps15
  go_wp2_with fail
  go_loopg [0, 4] (s.size + 1) (fun g v0 v4 wr => ∃ (S : ByteArray) (m : Bool) (st : List NV), v0 = .string S ∧ v4 = .bool m ∧ S.size ≤ s.size ∧ st.length + S.size ≤ s.size + 1 ∧ (m = true → S.size + 1 ≤ g ∧ st.length + S.size ≤ s.size) ∧ Hid (Inv Hb v st wr ∧ Below Hb w wr ∧ stay (ss.map bl) (bl s) = st ++ (if m = true then stay (ss.map bl) (bl S) else [])))
  case atStart => exact ⟨s, true, [], rfl, rfl, Nat.le_refl _, by simp, fun _ => ⟨Nat.le_refl _, by simp⟩, hide ⟨HI.out, Below.refl _ _, rfl⟩⟩
  case round =>
    obtain ⟨S, m, st, rfl, rfl, hS, hlen, hm, HR⟩ := hrel
    clear HI
    cases m with
    | false =>
      clear hm
      have HE : Hid (stay (ss.map bl) (bl s) = st) := hide (by have := HR.out.2.2; simpa using this)
      go_wp2_with fail
      go_end0
      rw [HE.out]
      exact ⟨rfl, HR.out.1, HR.out.2.1⟩
    | true =>
      obtain ⟨hg, hlen2⟩ := hm rfl
      clear hm
      have HST : Hid (stay (ss.map bl) (bl s) = st ++ stay (ss.map bl) (bl S)) := hide (by have := HR.out.2.2; simpa using this)
      by_cases hsemi : (59 : UInt8) ∈ bl S
      · obtain ⟨A, B, hAB, hnA⟩ := split_ba S 59 hsemi
        have hsz : S.size = A.size + 1 + B.size := by
          have := congrArg List.length hAB
          rw [bl_len, List.length_append, List.length_cons, bl_len, bl_len] at this
          omega
        have cc := fun w => cut_some S 59 A B hAB hnA (by omega) w
        have HST2 : Hid (stay (ss.map bl) (bl s) = st ++ ((pp (bl A)).toList.filter (keep (ss.map bl)) ++ stay (ss.map bl) (bl B))) := hide (by rw [HST.out, hAB, stay_semi _ _ _ hnA])
        have HSZ := hide hsz
        clear hAB hnA hsemi HST hsz
        by_cases hcol : (58 : UInt8) ∈ bl A
        · obtain ⟨N, V, hNV, hnN⟩ := split_ba A 58 hcol
          have hszA : A.size = N.size + 1 + V.size := by
            have := congrArg List.length hNV
            rw [bl_len, List.length_append, List.length_cons, bl_len, bl_len] at this
            omega
          have cd := fun w => cut_some A 58 N V hNV hnN (by have := HSZ.out; omega) w
          have cn := fun w => plain_any N (by have := HSZ.out; omega) w
          have cv := fun w => plain_any V (by have := HSZ.out; omega) w
          have HST3 : Hid (stay (ss.map bl) (bl s) = (st ++ [(pl (bl N), pl (bl V))].filter (keep (ss.map bl))) ++ stay (ss.map bl) (bl B)) := hide (by rw [HST2.out, hNV, pp_some _ _ hnN, List.append_assoc])
          have HT : Hid (∀ wx, Below wr.heap.size wr wx → Calls Tryd.prog 16 #[.string ⟨(pl (bl N)).toArray⟩, .string ⟨(pl (bl V)).toArray⟩, .pointer (some ⟨Hb, 0, none⟩), .pointer (some ⟨Hb + 1, 0, none⟩), .pointer (some ⟨Hb + 3, 0, none⟩)] wx fun e w' => e = .returned (.tuple #[]) ∧ Hid (Inv Hb v (st ++ [(pl (bl N), pl (bl V))].filter (keep (ss.map bl))) w' ∧ Below Hb w w')) := hide (by
            intro wx hx
            have hwx : Below Hb w wx := HR.out.2.1.trans (hx.mono (by have := HR.out.1.lt; omega))
            refine (part_told Hb v ss st N V w0 wx h0 (HR.out.1.keep hx) HV.out (HB.out.trans hwx) (by have := HSZ.out; omega) (by have := HSZ.out; omega) (by omega) hl).mono ?_
            rintro e w' ⟨h1, h2, h3⟩
            exact ⟨h1, hide ⟨h2, hwx.trans h3⟩⟩)
          have HLN : Hid ((st ++ [(pl (bl N), pl (bl V))].filter (keep (ss.map bl))).length + B.size ≤ s.size) := hide (by
            have h1 := filter_len (keep (ss.map bl)) (pl (bl N), pl (bl V))
            have h2 := HSZ.out
            rw [List.length_append]
            omega)
          have hBs : B.size + 1 ≤ gk - 1 := by have := HSZ.out; omega
          have hBS : B.size ≤ s.size := by have := HSZ.out; omega
          clear hNV hnN hcol HST2 HR hszA HSZ
          generalize (⟨(pl (bl N)).toArray⟩ : ByteArray) = PN at cn HT
          generalize (⟨(pl (bl V)).toArray⟩ : ByteArray) = PV at cv HT
          go_wp2_with fail
          refine (cc _).mono ?_
          rintro e w1 ⟨rfl, hb1⟩
          go_wp2_with fail
          refine (cd _).mono ?_
          rintro e w2 ⟨rfl, hb2⟩
          go_wp2_with fail
          refine (cn _).mono ?_
          rintro e w3 ⟨rfl, hb3⟩
          go_wp2_with fail
          refine (cv _).mono ?_
          rintro e w4 ⟨rfl, hb4⟩
          have HT4 := hide (HT.out w4 (bel2 (bel2 (bel2 hb1 hb2) hb3) hb4))
          clear hb1 hb2 hb3 hb4 HT cc cd cn cv
          go_wp2_with fail
          refine HT4.out.mono ?_
          rintro e w5 ⟨rfl, HR5⟩
          clear HT4
          go_wp2_with fail
          go_roundg (gk - 1)
          case measure => omega
          case rel => exact ⟨B, true, st ++ [(pl (bl N), pl (bl V))].filter (keep (ss.map bl)), rfl, rfl, hBS, by have := HLN.out; omega, fun _ => ⟨hBs, HLN.out⟩, hide ⟨HR5.out.1, HR5.out.2, by rw [if_pos rfl]; exact HST3.out⟩⟩
        · have cd := fun w => cut_none A 58 hcol w
          have HST3 : Hid (stay (ss.map bl) (bl s) = st ++ stay (ss.map bl) (bl B)) := hide (by rw [HST2.out, pp_none _ hcol]; rfl)
          have hBs : B.size + 1 ≤ gk - 1 := by have := HSZ.out; omega
          have hBS : B.size ≤ s.size := by have := HSZ.out; omega
          have hLN : st.length + B.size ≤ s.size := by have := HSZ.out; omega
          clear hcol HST2 HSZ
          go_wp2_with fail
          refine (cc _).mono ?_
          rintro e w1 ⟨rfl, hb1⟩
          go_wp2_with fail
          refine (cd _).mono ?_
          rintro e w2 ⟨rfl, hb2⟩
          have HR2 := hide (And.intro (HR.out.1.keep (bel2 hb1 hb2)) (HR.out.2.1.trans ((bel2 hb1 hb2).mono (by have := HR.out.1.lt; omega))))
          clear hb1 hb2 HR cc cd
          go_wp2_with fail
          go_roundg (gk - 1)
          case measure => omega
          case rel => exact ⟨B, true, st, rfl, rfl, hBS, by omega, fun _ => ⟨hBs, hLN⟩, hide ⟨HR2.out.1, HR2.out.2, by rw [if_pos rfl]; exact HST3.out⟩⟩
      · have cc := fun w => cut_none S 59 hsemi w
        have HST2 : Hid (stay (ss.map bl) (bl s) = st ++ (pp (bl S)).toList.filter (keep (ss.map bl))) := hide (by rw [HST.out, stay_end _ _ hsemi])
        clear hsemi HST
        by_cases hcol : (58 : UInt8) ∈ bl S
        · obtain ⟨N, V, hNV, hnN⟩ := split_ba S 58 hcol
          have hszA : S.size = N.size + 1 + V.size := by
            have := congrArg List.length hNV
            rw [bl_len, List.length_append, List.length_cons, bl_len, bl_len] at this
            omega
          have cd := fun w => cut_some S 58 N V hNV hnN (by omega) w
          have cn := fun w => plain_any N (by omega) w
          have cv := fun w => plain_any V (by omega) w
          have HST3 : Hid (stay (ss.map bl) (bl s) = (st ++ [(pl (bl N), pl (bl V))].filter (keep (ss.map bl))) ++ []) := hide (by rw [HST2.out, hNV, pp_some _ _ hnN, List.append_nil])
          have HT : Hid (∀ wx, Below wr.heap.size wr wx → Calls Tryd.prog 16 #[.string ⟨(pl (bl N)).toArray⟩, .string ⟨(pl (bl V)).toArray⟩, .pointer (some ⟨Hb, 0, none⟩), .pointer (some ⟨Hb + 1, 0, none⟩), .pointer (some ⟨Hb + 3, 0, none⟩)] wx fun e w' => e = .returned (.tuple #[]) ∧ Hid (Inv Hb v (st ++ [(pl (bl N), pl (bl V))].filter (keep (ss.map bl))) w' ∧ Below Hb w w')) := hide (by
            intro wx hx
            have hwx : Below Hb w wx := HR.out.2.1.trans (hx.mono (by have := HR.out.1.lt; omega))
            refine (part_told Hb v ss st N V w0 wx h0 (HR.out.1.keep hx) HV.out (HB.out.trans hwx) (by omega) (by omega) (by omega) hl).mono ?_
            rintro e w' ⟨h1, h2, h3⟩
            exact ⟨h1, hide ⟨h2, hwx.trans h3⟩⟩)
          have HLN : Hid ((st ++ [(pl (bl N), pl (bl V))].filter (keep (ss.map bl))).length ≤ s.size + 1) := hide (by
            have h1 := filter_len (keep (ss.map bl)) (pl (bl N), pl (bl V))
            rw [List.length_append]
            omega)
          have hgp : 1 ≤ gk := by omega
          clear hNV hnN hcol HST2 HR hszA
          generalize (⟨(pl (bl N)).toArray⟩ : ByteArray) = PN at cn HT
          generalize (⟨(pl (bl V)).toArray⟩ : ByteArray) = PV at cv HT
          go_wp2_with fail
          refine (cc _).mono ?_
          rintro e w1 ⟨rfl, hb1⟩
          go_wp2_with fail
          refine (cd _).mono ?_
          rintro e w2 ⟨rfl, hb2⟩
          go_wp2_with fail
          refine (cn _).mono ?_
          rintro e w3 ⟨rfl, hb3⟩
          go_wp2_with fail
          refine (cv _).mono ?_
          rintro e w4 ⟨rfl, hb4⟩
          have HT4 := hide (HT.out w4 (bel2 (bel2 (bel2 hb1 hb2) hb3) hb4))
          clear hb1 hb2 hb3 hb4 HT cc cd cn cv
          go_wp2_with fail
          refine HT4.out.mono ?_
          rintro e w5 ⟨rfl, HR5⟩
          clear HT4
          go_wp2_with fail
          go_roundg (gk - 1)
          case measure => omega
          case rel => exact ⟨⟨#[]⟩, false, st ++ [(pl (bl N), pl (bl V))].filter (keep (ss.map bl)), rfl, rfl, Nat.zero_le _, (show _ + 0 ≤ _ from HLN.out), (fun h => by cases h), hide ⟨HR5.out.1, HR5.out.2, by rw [if_neg (by decide)]; exact HST3.out⟩⟩
        · have cd := fun w => cut_none S 58 hcol w
          have HST3 : Hid (stay (ss.map bl) (bl s) = st ++ []) := hide (by rw [HST2.out, pp_none _ hcol]; rfl)
          have hgp : 1 ≤ gk := by omega
          have hLN : st.length ≤ s.size + 1 := by omega
          clear hcol HST2
          go_wp2_with fail
          refine (cc _).mono ?_
          rintro e w1 ⟨rfl, hb1⟩
          go_wp2_with fail
          refine (cd _).mono ?_
          rintro e w2 ⟨rfl, hb2⟩
          have HR2 := hide (And.intro (HR.out.1.keep (bel2 hb1 hb2)) (HR.out.2.1.trans ((bel2 hb1 hb2).mono (by have := HR.out.1.lt; omega))))
          clear hb1 hb2 HR cc cd
          go_wp2_with fail
          go_roundg (gk - 1)
          case measure => omega
          case rel => exact ⟨⟨#[]⟩, false, st, rfl, rfl, Nat.zero_le _, (show _ + 0 ≤ _ from hLN), (fun h => by cases h), hide ⟨HR2.out.1, HR2.out.2, by rw [if_neg (by decide)]; exact HST3.out⟩⟩
end Go.Proofs.YtnjbeehfnahdfaaDoor
